/- Part 17 of what BridgeRests stands on. No statement is proved here. -/
import Derived.Test.YtpanapepcbbagaaGreatBvp
set_option linter.unusedVariables false
set_option linter.unusedSimpArgs false
set_option maxRecDepth 100000
set_option maxHeartbeats 8000000
namespace Go.Proofs.YtpanapepcbbagaaGreat
open Go.RowKit Go.BigFrame Go.WideShapes Go.ChangeShapes Go.Deep
theorem Mut.toF{w w':World}{F:Nat→Prop}{g:Nat}(h:Mut (fun n=>n=g) w w')(hg:F g):Mut F w w':=h.mono (fun n _ e=>by rw[show n=g from e];exact hg)
theorem kA{B:Br}{k j:Nat}{v:Value}(h:j≠45):cD (B.setp k j v) k=cD B k:=by
 unfold cD
 rw[iU _ _ _ _ _ h]
 rfl
theorem rD(w:World)(F:Nat→Prop)(X g k:Nat)(B:Br)(h:BrG w F X g B)(ho:B.ok)(hk:k<B.np)(fd:Int):Calls Tryz.prog 147 #[aJ g k X,.int .i64 fd] w fun e w'=>e=.returned (.tuple #[])∧BrG w' F X g (eG B k fd)∧Mut (fun n=>n=g) w w':=by
 obtain⟨hX,hg,hne⟩:=h.lt
 have hbg:¬w.heap.size=g:=by omega
 have hbX:¬w.heap.size=X:=by omega
 have hXg:¬X=g:=hne
 have hFg:=h.F2
 have HMz:=hD ((Mut.refl (fun n=>n=g) w).alloc (.cells #[.pointer (some ⟨g,k*89,none⟩),.pointer (some ⟨X,0,none⟩),.int .i64 k] 112))
 have HBz:=hD (BrG.alloc h (.cells #[.pointer (some ⟨g,k*89,none⟩),.pointer (some ⟨X,0,none⟩),.int .i64 k] 112))
 have HPz:=hD (heap_alloc_new w (.cells #[.pointer (some ⟨g,k*89,none⟩),.pointer (some ⟨X,0,none⟩),.int .i64 k] 112))
 have HZ0:=hD (show w.heap.size<(w.alloc (.cells #[.pointer (some ⟨g,k*89,none⟩),.pointer (some ⟨X,0,none⟩),.int .i64 k] 112)).heap.size by simp)
 have okz:Br.ok B:=ho
 clear h
 unfold aJ
 go_enter Tryz.func147,Tryz.ntmps147
 go_wp2_with fail
 have HZ1:=hD (show w.heap.size=w.heap.size by simp)
 generalize hwz:(w.alloc (.cells #[.pointer (some ⟨g,k*89,none⟩),.pointer (some ⟨X,0,none⟩),.int .i64 k] 112))=wz at *
 clear hwz
 obtain⟨b0,hb00⟩:∃b,w.heap.size=b:=⟨_,rfl⟩
 have hPz:=HPz.out
 rw[HZ1.out,hb00]at hPz
 have HPz:=hD hPz
 clear hPz HZ1
 rw[hb00]at HZ0 hbg hbX ⊢
 clear hb00
 have hb0:=HZ0.out
 have c0:wz.cell? ⟨b0,0,none⟩=some (.pointer (some ⟨g,k*89,none⟩)):=(cell_of_row _ _ _ _ _ _ HPz.out).trans rfl
 have c1:wz.cell? ⟨b0,1,none⟩=some (.pointer (some ⟨X,0,none⟩)):=(cell_of_row _ _ _ _ _ _ HPz.out).trans rfl
 have c2:wz.cell? ⟨b0,2,none⟩=some (.int .i64 k):=(cell_of_row _ _ _ _ _ _ HPz.out).trans rfl
 have hgz:g<wz.heap.size:=HBz.out.lt.2.1
 have hXz:X<wz.heap.size:=HBz.out.lt.1
 refine aT (S:=fun W'=>Ext wz W') (by kernel_rfl) ?_
 intro wd hqx
 have hq0:Ext wz wd:=hqx
 refine aH 0 b0 0 rfl hq0 ?_
 refine tL 1 (_) rfl (aA rfl 79 _ rfl ⟨b0,0,none⟩ rfl (.pointer (some ⟨g,k*89,none⟩)) _ (fun W' hW'=>(hW'.cell (p:=⟨b0,0,none⟩) hb0).trans c0) Tryz.underlying79 rfl) hq0 ?_
 refine aH 2 g (k*89) rfl hq0 ?_
 refine aH 3 g (k*89+22) rfl hq0 ?_
 refine aH 4 b0 0 rfl hq0 ?_
 refine tL 5 (_) rfl (aA rfl 79 _ rfl ⟨b0,0,none⟩ rfl (.pointer (some ⟨g,k*89,none⟩)) _ (fun W' hW'=>(hW'.cell (p:=⟨b0,0,none⟩) hb0).trans c0) Tryz.underlying79 rfl) hq0 ?_
 refine aH 6 g (k*89) rfl hq0 ?_
 refine aH 7 g (k*89+6) rfl hq0 ?_
 refine aH 8 g (k*89+22) rfl hq0 ?_
 refine aH 9 g (k*89+6) rfl hq0 ?_
 refine wpAnyH_done (by kernel_rfl) ?_ _
 have hBd:=HBz.out.ext hq0
 have e7:=(hBd.cellg (i:=k*89+7) (bZ hk (by decide))).trans (Br.ok.gi ho (k:=k) hk 7 rfl)
 have e12:=(hBd.cellg (i:=k*89+12) (bZ hk (by decide))).trans (Br.ok.gi ho (k:=k) hk 12 rfl)
 have e47:=(hBd.cellg (i:=k*89+47) (bZ hk (by decide))).trans (Br.ok.gb ho (k:=k) hk 47 rfl)
 have e46:=(hBd.cellg (i:=k*89+46) (bZ hk (by decide))).trans (Br.ok.gb ho (k:=k) hk 46 rfl)
 have e42:=(hBd.cellg (i:=k*89+42) (bZ hk (by decide))).trans (Br.ok.gb ho (k:=k) hk 42 rfl)
 have efr:=hBd.frozen
 have HBd:=hD hBd
 have HQ:=hD hq0
 clear hBd hq0 hqx c0 c1 c2
 go_wp2_with fail
 go_end0
 exact⟨rfl,(((((HBd.out.setp (k:=k) (j:=7) hk (by decide) (.int .i64 fd)).setp (k:=k) (j:=12) hk (by decide) (.int .i64 0)).setp (k:=k) (j:=47) hk (by decide) (.bool true)).setp (k:=k) (j:=46) hk (by decide) (.bool false)).setp (k:=k) (j:=42) hk (by decide) (.bool false)),HMz.out.trans ((((((HQ.out.mut (fun n=>n=g)).setCell (p:=⟨g,k*89+7,none⟩) (.inl rfl) (.int .i64 fd)).setCell (p:=⟨g,k*89+12,none⟩) (.inl rfl) (.int .i64 0)).setCell (p:=⟨g,k*89+47,none⟩) (.inl rfl) (.bool true)).setCell (p:=⟨g,k*89+46,none⟩) (.inl rfl) (.bool false)).setCell (p:=⟨g,k*89+42,none⟩) (.inl rfl) (.bool false))⟩
theorem pF(w:World)(F:Nat→Prop)(X g k:Nat)(B:Br)(h:BrG w F X g B)(ho:B.ok)(hk:k<B.np):Calls Tryz.prog 90 #[aJ g k X] w fun e w'=>e=.returned (.tuple #[])∧BrG w' F X g (eG B k (B.hi 3))∧Mut (fun n=>n=g) w w':=by
 obtain⟨hX,hg,hne⟩:=h.lt
 have hbg:¬w.heap.size=g:=by omega
 have hbX:¬w.heap.size=X:=by omega
 have hXg:¬X=g:=hne
 have hFg:=h.F2
 have HMz:=hD ((Mut.refl (fun n=>n=g) w).alloc (.cells #[.pointer (some ⟨g,k*89,none⟩),.pointer (some ⟨X,0,none⟩),.int .i64 k] 112))
 have HBz:=hD (BrG.alloc h (.cells #[.pointer (some ⟨g,k*89,none⟩),.pointer (some ⟨X,0,none⟩),.int .i64 k] 112))
 have HPz:=hD (heap_alloc_new w (.cells #[.pointer (some ⟨g,k*89,none⟩),.pointer (some ⟨X,0,none⟩),.int .i64 k] 112))
 have HZ0:=hD (show w.heap.size<(w.alloc (.cells #[.pointer (some ⟨g,k*89,none⟩),.pointer (some ⟨X,0,none⟩),.int .i64 k] 112)).heap.size by simp)
 have okz:Br.ok B:=ho
 clear h
 unfold aJ
 go_enter Tryz.func90,Tryz.ntmps90
 go_wp2_with fail
 have HZ1:=hD (show w.heap.size=w.heap.size by simp)
 generalize hwz:(w.alloc (.cells #[.pointer (some ⟨g,k*89,none⟩),.pointer (some ⟨X,0,none⟩),.int .i64 k] 112))=wz at *
 clear hwz
 obtain⟨b0,hb00⟩:∃b,w.heap.size=b:=⟨_,rfl⟩
 have hPz:=HPz.out
 rw[HZ1.out,hb00]at hPz
 have HPz:=hD hPz
 clear hPz HZ1
 rw[hb00]at HZ0 hbg hbX ⊢
 clear hb00
 have hb0:=HZ0.out
 have c0:wz.cell? ⟨b0,0,none⟩=some (.pointer (some ⟨g,k*89,none⟩)):=(cell_of_row _ _ _ _ _ _ HPz.out).trans rfl
 have c1:wz.cell? ⟨b0,1,none⟩=some (.pointer (some ⟨X,0,none⟩)):=(cell_of_row _ _ _ _ _ _ HPz.out).trans rfl
 have c2:wz.cell? ⟨b0,2,none⟩=some (.int .i64 k):=(cell_of_row _ _ _ _ _ _ HPz.out).trans rfl
 have hgz:g<wz.heap.size:=HBz.out.lt.2.1
 have hXz:X<wz.heap.size:=HBz.out.lt.1
 have q3:=(HBz.out.cellX okz (i:=3) (by decide)).trans (okz.hi 3 rfl)
 refine aT (S:=fun W'=>Mut (fun n=>n=g) wz W') (by kernel_rfl) ?_
 intro wd hqx
 have hq0:Mut (fun n=>n=g) wz wd:=hqx.mut _
 refine tL 0 (_) rfl (a4 rfl 112 _ rfl b0 rfl #[.pointer (some ⟨g,k*89,none⟩),.pointer (some ⟨X,0,none⟩),.int .i64 k] _ _ (fun W' hW'=>(hW'.heap hb0 hbg).trans HPz.out) Tryz.underlying112 rfl b8) hq0 ?_
 refine aH 1 b0 1 rfl hq0 ?_
 refine tL 2 (_) rfl (aA rfl 52 _ rfl ⟨b0,1,none⟩ rfl (.pointer (some ⟨X,0,none⟩)) _ (fun W' hW'=>(hW'.cell (p:=⟨b0,1,none⟩) hb0 hbg).trans c1) Tryz.underlying52 rfl) hq0 ?_
 refine aH 3 X 0 rfl hq0 ?_
 refine aH 4 X 2 rfl hq0 ?_
 refine aH 5 X 3 rfl hq0 ?_
 refine tL 6 (_) rfl (aA rfl 3 _ rfl ⟨X,3,none⟩ rfl (.int .i64 (B.hi 3)) _ (fun W' hW'=>(hW'.cell (p:=⟨X,3,none⟩) hXz hXg).trans q3) Tryz.underlying3 rfl) hq0 ?_
 refine bB (i:=7) rfl rfl (by kernel_rfl) (fun K hK=>?_)
 go_simp
 refine(rD wd F X g k B (HBz.out.ext hqx) ho hk (B.hi 3)).mono ?_
 rintro e wc1 ⟨rfl,hB,hm⟩
 have hq1:=hq0.trans hm
 refine hK.out _ _ hq1 (fun hHeld=>?_)
 try simp only[ps]
 clear hK K hHeld
 refine wpAnyH_done (by kernel_rfl) ?_ _
 go_wp2_with fail
 go_end0
 exact⟨rfl,hB,HMz.out.trans hq1⟩
theorem uN(w:World)(F:Nat→Prop)(X g k:Nat)(B:Br)(h:BrG w F X g B)(ho:B.ok)(hk:k<B.np):Calls Tryz.prog 92 #[aJ g k X] w fun e w'=>e=.returned (.tuple #[])∧BrG w' F X g (eG B k (cD B k))∧Mut (fun n=>n=g) w w':=by
 obtain⟨hX,hg,hne⟩:=h.lt
 have hbg:¬w.heap.size=g:=by omega
 have hbX:¬w.heap.size=X:=by omega
 have hXg:¬X=g:=hne
 have hFg:=h.F2
 have HMz:=hD ((Mut.refl (fun n=>n=g) w).alloc (.cells #[.pointer (some ⟨g,k*89,none⟩),.pointer (some ⟨X,0,none⟩),.int .i64 k] 112))
 have HBz:=hD (BrG.alloc h (.cells #[.pointer (some ⟨g,k*89,none⟩),.pointer (some ⟨X,0,none⟩),.int .i64 k] 112))
 have HPz:=hD (heap_alloc_new w (.cells #[.pointer (some ⟨g,k*89,none⟩),.pointer (some ⟨X,0,none⟩),.int .i64 k] 112))
 have HZ0:=hD (show w.heap.size<(w.alloc (.cells #[.pointer (some ⟨g,k*89,none⟩),.pointer (some ⟨X,0,none⟩),.int .i64 k] 112)).heap.size by simp)
 have okz:Br.ok B:=ho
 clear h
 unfold aJ
 go_enter Tryz.func92,Tryz.ntmps92
 go_wp2_with fail
 have HZ1:=hD (show w.heap.size=w.heap.size by simp)
 generalize hwz:(w.alloc (.cells #[.pointer (some ⟨g,k*89,none⟩),.pointer (some ⟨X,0,none⟩),.int .i64 k] 112))=wz at *
 clear hwz
 obtain⟨b0,hb00⟩:∃b,w.heap.size=b:=⟨_,rfl⟩
 have hPz:=HPz.out
 rw[HZ1.out,hb00]at hPz
 have HPz:=hD hPz
 clear hPz HZ1
 rw[hb00]at HZ0 hbg hbX ⊢
 clear hb00
 have hb0:=HZ0.out
 have c0:wz.cell? ⟨b0,0,none⟩=some (.pointer (some ⟨g,k*89,none⟩)):=(cell_of_row _ _ _ _ _ _ HPz.out).trans rfl
 have c1:wz.cell? ⟨b0,1,none⟩=some (.pointer (some ⟨X,0,none⟩)):=(cell_of_row _ _ _ _ _ _ HPz.out).trans rfl
 have c2:wz.cell? ⟨b0,2,none⟩=some (.int .i64 k):=(cell_of_row _ _ _ _ _ _ HPz.out).trans rfl
 have hgz:g<wz.heap.size:=HBz.out.lt.2.1
 have hXz:X<wz.heap.size:=HBz.out.lt.1
 refine aT (S:=fun W'=>Mut (fun n=>n=g) wz W') (by kernel_rfl) ?_
 intro wd hqx
 have hq0:Mut (fun n=>n=g) wz wd:=hqx.mut _
 refine tL 0 (_) rfl (a4 rfl 112 _ rfl b0 rfl #[.pointer (some ⟨g,k*89,none⟩),.pointer (some ⟨X,0,none⟩),.int .i64 k] _ _ (fun W' hW'=>(hW'.heap hb0 hbg).trans HPz.out) Tryz.underlying112 rfl b8) hq0 ?_
 refine tL 1 (_) rfl (a4 rfl 112 _ rfl b0 rfl #[.pointer (some ⟨g,k*89,none⟩),.pointer (some ⟨X,0,none⟩),.int .i64 k] _ _ (fun W' hW'=>(hW'.heap hb0 hbg).trans HPz.out) Tryz.underlying112 rfl b8) hq0 ?_
 refine bB (i:=2) rfl rfl (by kernel_rfl) (fun K hK=>?_)
 go_simp
 refine(fQ wd F X g k B (HBz.out.ext hqx) ho hk).mono ?_
 rintro e wc1 ⟨he,hx⟩
 obtain rfl:e=.returned (.int .i64 (cD B k)):=he
 have hqx:=hqx.trans hx
 have hq1:=hq0.trans (hx.mut _)
 refine hK.out _ _ hq1 (fun hHeld=>?_)
 try simp only[ps]
 clear hK K hHeld
 refine bB (i:=3) rfl rfl (by kernel_rfl) (fun K hK=>?_)
 go_simp
 refine(rD wc1 F X g k B (HBz.out.ext hqx) ho hk (cD B k)).mono ?_
 rintro e wc2 ⟨rfl,hB,hm⟩
 have hq2:=hq1.trans hm
 refine hK.out _ _ hq2 (fun hHeld=>?_)
 try simp only[ps]
 clear hK K hHeld
 refine wpAnyH_done (by kernel_rfl) ?_ _
 go_wp2_with fail
 go_end0
 exact⟨rfl,hB,HMz.out.trans hq2⟩
theorem aBT(w:World)(F:Nat→Prop)(X g k:Nat)(B:Br)(h:BrG w F X g B)(ho:B.ok)(hk:k<B.np)(h4:0≤B.hi 4∧B.hi 4≤1000):Calls Tryz.prog 98 #[aJ g k X] w fun e w'=>e=.returned (.tuple #[])∧BrG w' F X g (B.setp k 10 (.int .i64 (2*B.hi 4)))∧Mut (fun n=>n=g) w w':=by
 obtain⟨hX,hg,hne⟩:=h.lt
 have hbg:¬w.heap.size=g:=by omega
 have hbX:¬w.heap.size=X:=by omega
 have hXg:¬X=g:=hne
 have hFg:=h.F2
 have HMz:=hD ((Mut.refl (fun n=>n=g) w).alloc (.cells #[.pointer (some ⟨g,k*89,none⟩),.pointer (some ⟨X,0,none⟩),.int .i64 k] 112))
 have HBz:=hD (BrG.alloc h (.cells #[.pointer (some ⟨g,k*89,none⟩),.pointer (some ⟨X,0,none⟩),.int .i64 k] 112))
 have HPz:=hD (heap_alloc_new w (.cells #[.pointer (some ⟨g,k*89,none⟩),.pointer (some ⟨X,0,none⟩),.int .i64 k] 112))
 have HZ0:=hD (show w.heap.size<(w.alloc (.cells #[.pointer (some ⟨g,k*89,none⟩),.pointer (some ⟨X,0,none⟩),.int .i64 k] 112)).heap.size by simp)
 have okz:Br.ok B:=ho
 clear h
 unfold aJ
 go_enter Tryz.func98,Tryz.ntmps98
 go_wp2_with fail
 have HZ1:=hD (show w.heap.size=w.heap.size by simp)
 generalize hwz:(w.alloc (.cells #[.pointer (some ⟨g,k*89,none⟩),.pointer (some ⟨X,0,none⟩),.int .i64 k] 112))=wz at *
 clear hwz
 obtain⟨b0,hb00⟩:∃b,w.heap.size=b:=⟨_,rfl⟩
 have hPz:=HPz.out
 rw[HZ1.out,hb00]at hPz
 have HPz:=hD hPz
 clear hPz HZ1
 rw[hb00]at HZ0 hbg hbX ⊢
 clear hb00
 have hb0:=HZ0.out
 have c0:wz.cell? ⟨b0,0,none⟩=some (.pointer (some ⟨g,k*89,none⟩)):=(cell_of_row _ _ _ _ _ _ HPz.out).trans rfl
 have c1:wz.cell? ⟨b0,1,none⟩=some (.pointer (some ⟨X,0,none⟩)):=(cell_of_row _ _ _ _ _ _ HPz.out).trans rfl
 have c2:wz.cell? ⟨b0,2,none⟩=some (.int .i64 k):=(cell_of_row _ _ _ _ _ _ HPz.out).trans rfl
 have hgz:g<wz.heap.size:=HBz.out.lt.2.1
 have hXz:X<wz.heap.size:=HBz.out.lt.1
 have hwr:IntKind.i64.wrap (2*B.hi 4)=2*B.hi 4:=by rw[IntKind.wrap_i64];omega
 have q4:=(HBz.out.cellX okz (i:=4) (by decide)).trans (okz.hi 4 rfl)
 refine aT (S:=fun W'=>Mut (fun n=>n=g) wz W') (by kernel_rfl) ?_
 intro wd hqx
 have hq0:Mut (fun n=>n=g) wz wd:=hqx.mut _
 have HBd:=hD (HBz.out.ext hqx)
 have e10:=(HBd.out.cellg (i:=k*89+10) (bZ hk (by decide))).trans (Br.ok.gi ho (k:=k) hk 10 rfl)
 have efr:=HBd.out.frozen
 refine aH 0 b0 0 rfl hq0 ?_
 refine tL 1 (_) rfl (aA rfl 79 _ rfl ⟨b0,0,none⟩ rfl (.pointer (some ⟨g,k*89,none⟩)) _ (fun W' hW'=>(hW'.cell (p:=⟨b0,0,none⟩) hb0 hbg).trans c0) Tryz.underlying79 rfl) hq0 ?_
 refine aH 2 b0 1 rfl hq0 ?_
 refine tL 3 (_) rfl (aA rfl 52 _ rfl ⟨b0,1,none⟩ rfl (.pointer (some ⟨X,0,none⟩)) _ (fun W' hW'=>(hW'.cell (p:=⟨b0,1,none⟩) hb0 hbg).trans c1) Tryz.underlying52 rfl) hq0 ?_
 refine aH 4 X 0 rfl hq0 ?_
 refine aH 5 X 2 rfl hq0 ?_
 refine aH 6 X 4 rfl hq0 ?_
 refine tL 7 (_) rfl (aA rfl 3 _ rfl ⟨X,4,none⟩ rfl (.int .i64 (B.hi 4)) _ (fun W' hW'=>(hW'.cell (p:=⟨X,4,none⟩) hXz hXg).trans q4) Tryz.underlying3 rfl) hq0 ?_
 refine tL 8 ((.int .i64 (2*B.hi 4))) rfl (Or.inl ⟨rfl,fun W' _=>by go_simp⟩) hq0 ?_
 refine aH 9 g (k*89) rfl hq0 ?_
 refine aH 10 g (k*89+6) rfl hq0 ?_
 refine aH 11 g (k*89+10) rfl hq0 ?_
 refine bB (i:=12) rfl rfl (by kernel_rfl) (fun K hK=>?_)
 go_simp
 have hq1:=hq0.setCell (p:=⟨g,k*89+10,none⟩) (.inl rfl) (.int .i64 (2*B.hi 4))
 refine hK.out _ _ hq1 (fun hHeld=>?_)
 try simp only[ps]
 clear hK K hHeld
 refine wpAnyH_done (by kernel_rfl) ?_ _
 go_wp2_with fail
 go_end0
 exact⟨rfl,(HBd.out.setp (k:=k) (j:=10) hk (by decide) (.int .i64 (2*B.hi 4))),HMz.out.trans hq1⟩
theorem uO(w:World)(F:Nat→Prop)(X g k:Nat)(B:Br)(h:BrG w F X g B)(ho:B.ok)(hk:k<B.np):Calls Tryz.prog 104 #[aJ g k X] w fun e w'=>e=.returned (.tuple #[])∧BrG w' F X g (iN B k)∧Mut (fun n=>n=g) w w':=by
 obtain⟨hX,hg,hne⟩:=h.lt
 have hbg:¬w.heap.size=g:=by omega
 have hbX:¬w.heap.size=X:=by omega
 have hXg:¬X=g:=hne
 have hFg:=h.F2
 have e28:=(h.cellg (i:=k*89+28) (bZ hk (by decide))).trans (Br.ok.gb ho (k:=k) hk 28 rfl)
 have efr:=h.frozen
 have HMz:=hD (((Mut.refl (fun n=>n=g) w).setCell (p:=⟨g,k*89+28,none⟩) (.inl rfl) (.bool true)).alloc (.cells #[.pointer (some ⟨g,k*89,none⟩),.pointer (some ⟨X,0,none⟩),.int .i64 k] 112))
 have HBz:=hD (BrG.alloc (h.setp (k:=k) (j:=28) hk (by decide) (.bool true)) (.cells #[.pointer (some ⟨g,k*89,none⟩),.pointer (some ⟨X,0,none⟩),.int .i64 k] 112))
 have HPz:=hD (heap_alloc_new (w.setCell ⟨g,k*89+28,none⟩ (.bool true)) (.cells #[.pointer (some ⟨g,k*89,none⟩),.pointer (some ⟨X,0,none⟩),.int .i64 k] 112))
 have HZ0:=hD (show w.heap.size<((w.setCell ⟨g,k*89+28,none⟩ (.bool true)).alloc (.cells #[.pointer (some ⟨g,k*89,none⟩),.pointer (some ⟨X,0,none⟩),.int .i64 k] 112)).heap.size by simp)
 have okz:Br.ok (B.setp k 28 (.bool true)):=(ho.setB (k:=k) hk 28 true rfl)
 clear h
 unfold aJ
 go_enter Tryz.func104,Tryz.ntmps104
 go_wp2_with fail
 clear e28 efr
 have HZ1:=hD (show(w.setCell ⟨g,k*89+28,none⟩ (.bool true)).heap.size=w.heap.size by simp)
 generalize hwz:((w.setCell ⟨g,k*89+28,none⟩ (.bool true)).alloc (.cells #[.pointer (some ⟨g,k*89,none⟩),.pointer (some ⟨X,0,none⟩),.int .i64 k] 112))=wz at *
 clear hwz
 obtain⟨b0,hb00⟩:∃b,w.heap.size=b:=⟨_,rfl⟩
 have hPz:=HPz.out
 rw[HZ1.out,hb00]at hPz
 have HPz:=hD hPz
 clear hPz HZ1
 rw[hb00]at HZ0 hbg hbX ⊢
 clear hb00
 have hb0:=HZ0.out
 have c0:wz.cell? ⟨b0,0,none⟩=some (.pointer (some ⟨g,k*89,none⟩)):=(cell_of_row _ _ _ _ _ _ HPz.out).trans rfl
 have c1:wz.cell? ⟨b0,1,none⟩=some (.pointer (some ⟨X,0,none⟩)):=(cell_of_row _ _ _ _ _ _ HPz.out).trans rfl
 have c2:wz.cell? ⟨b0,2,none⟩=some (.int .i64 k):=(cell_of_row _ _ _ _ _ _ HPz.out).trans rfl
 have hgz:g<wz.heap.size:=HBz.out.lt.2.1
 have hXz:X<wz.heap.size:=HBz.out.lt.1
 refine aT (S:=fun W'=>Mut (fun n=>n=g) wz W') (by kernel_rfl) ?_
 intro wd hqx
 have hq0:Mut (fun n=>n=g) wz wd:=hqx.mut _
 refine aH 0 b0 0 rfl hq0 ?_
 refine tL 1 (_) rfl (aA rfl 79 _ rfl ⟨b0,0,none⟩ rfl (.pointer (some ⟨g,k*89,none⟩)) _ (fun W' hW'=>(hW'.cell (p:=⟨b0,0,none⟩) hb0 hbg).trans c0) Tryz.underlying79 rfl) hq0 ?_
 refine tL 2 (_) rfl (a4 rfl 112 _ rfl b0 rfl #[.pointer (some ⟨g,k*89,none⟩),.pointer (some ⟨X,0,none⟩),.int .i64 k] _ _ (fun W' hW'=>(hW'.heap hb0 hbg).trans HPz.out) Tryz.underlying112 rfl b8) hq0 ?_
 refine bB (i:=3) rfl rfl (by kernel_rfl) (fun K hK=>?_)
 go_simp
 refine(fQ wd F X g k (B.setp k 28 (.bool true)) (HBz.out.ext hqx) okz hk).mono ?_
 rintro e wc1 ⟨he,hx⟩
 rw[kA (by decide)]at he
 obtain rfl:e=.returned (.int .i64 (cD B k)):=he
 have hq1:=hq0.trans (hx.mut _)
 have HBd:=hD (HBz.out.ext (hqx.trans hx))
 have e7:=(HBd.out.cellg (i:=k*89+7) (bZ hk (by decide))).trans (Br.ok.gi okz (k:=k) hk 7 rfl)
 have efr:=HBd.out.frozen
 refine hK.out _ _ hq1 (fun hHeld=>?_)
 try simp only[ps]
 clear hK K hHeld
 refine aH 4 g (k*89) rfl hq1 ?_
 refine aH 5 g (k*89+6) rfl hq1 ?_
 refine aH 6 g (k*89+7) rfl hq1 ?_
 refine bB (i:=7) rfl rfl (by kernel_rfl) (fun K hK=>?_)
 go_simp
 have hq2:=hq1.setCell (p:=⟨g,k*89+7,none⟩) (.inl rfl) (.int .i64 (cD B k))
 refine hK.out _ _ hq2 (fun hHeld=>?_)
 try simp only[ps]
 clear hK K hHeld
 refine wpAnyH_done (by kernel_rfl) ?_ _
 go_wp2_with fail
 go_end0
 exact⟨rfl,(HBd.out.setp (k:=k) (j:=7) hk (by decide) (.int .i64 (cD B k))),HMz.out.trans hq2⟩
theorem aBU(w:World)(F:Nat→Prop)(X g k:Nat)(B:Br)(h:BrG w F X g B)(ho:B.ok)(hk:k<B.np):Calls Tryz.prog 117 #[aJ g k X] w fun e w'=>e=.returned (.tuple #[])∧BrG w' F X g ((((B.setp k 28 (.bool false)).setp k 26 (.bool false)).setp k 24 (.bool false)).setp k 7 (.int .i64 (cD B k)))∧Mut (fun n=>n=g) w w':=by
 obtain⟨hX,hg,hne⟩:=h.lt
 have hbg:¬w.heap.size=g:=by omega
 have hbX:¬w.heap.size=X:=by omega
 have hXg:¬X=g:=hne
 have hFg:=h.F2
 have e28:=(h.cellg (i:=k*89+28) (bZ hk (by decide))).trans (Br.ok.gb ho (k:=k) hk 28 rfl)
 have e26:=(h.cellg (i:=k*89+26) (bZ hk (by decide))).trans (Br.ok.gb ho (k:=k) hk 26 rfl)
 have e24:=(h.cellg (i:=k*89+24) (bZ hk (by decide))).trans (Br.ok.gb ho (k:=k) hk 24 rfl)
 have efr:=h.frozen
 have HMz:=hD (((((Mut.refl (fun n=>n=g) w).setCell (p:=⟨g,k*89+28,none⟩) (.inl rfl) (.bool false)).setCell (p:=⟨g,k*89+26,none⟩) (.inl rfl) (.bool false)).setCell (p:=⟨g,k*89+24,none⟩) (.inl rfl) (.bool false)).alloc (.cells #[.pointer (some ⟨g,k*89,none⟩),.pointer (some ⟨X,0,none⟩),.int .i64 k] 112))
 have HBz:=hD (BrG.alloc (((h.setp (k:=k) (j:=28) hk (by decide) (.bool false)).setp (k:=k) (j:=26) hk (by decide) (.bool false)).setp (k:=k) (j:=24) hk (by decide) (.bool false)) (.cells #[.pointer (some ⟨g,k*89,none⟩),.pointer (some ⟨X,0,none⟩),.int .i64 k] 112))
 have HPz:=hD (heap_alloc_new (((w.setCell ⟨g,k*89+28,none⟩ (.bool false)).setCell ⟨g,k*89+26,none⟩ (.bool false)).setCell ⟨g,k*89+24,none⟩ (.bool false)) (.cells #[.pointer (some ⟨g,k*89,none⟩),.pointer (some ⟨X,0,none⟩),.int .i64 k] 112))
 have HZ0:=hD (show w.heap.size<((((w.setCell ⟨g,k*89+28,none⟩ (.bool false)).setCell ⟨g,k*89+26,none⟩ (.bool false)).setCell ⟨g,k*89+24,none⟩ (.bool false)).alloc (.cells #[.pointer (some ⟨g,k*89,none⟩),.pointer (some ⟨X,0,none⟩),.int .i64 k] 112)).heap.size by simp)
 have okz:Br.ok (((B.setp k 28 (.bool false)).setp k 26 (.bool false)).setp k 24 (.bool false)):=(((ho.setB (k:=k) hk 28 false rfl).setB (k:=k) hk 26 false rfl).setB (k:=k) hk 24 false rfl)
 clear h
 unfold aJ
 go_enter Tryz.func117,Tryz.ntmps117
 go_wp2_with fail
 clear e28 e26 e24 efr
 have HZ1:=hD (show(((w.setCell ⟨g,k*89+28,none⟩ (.bool false)).setCell ⟨g,k*89+26,none⟩ (.bool false)).setCell ⟨g,k*89+24,none⟩ (.bool false)).heap.size=w.heap.size by simp)
 generalize hwz:((((w.setCell ⟨g,k*89+28,none⟩ (.bool false)).setCell ⟨g,k*89+26,none⟩ (.bool false)).setCell ⟨g,k*89+24,none⟩ (.bool false)).alloc (.cells #[.pointer (some ⟨g,k*89,none⟩),.pointer (some ⟨X,0,none⟩),.int .i64 k] 112))=wz at *
 clear hwz
 obtain⟨b0,hb00⟩:∃b,w.heap.size=b:=⟨_,rfl⟩
 have hPz:=HPz.out
 rw[HZ1.out,hb00]at hPz
 have HPz:=hD hPz
 clear hPz HZ1
 rw[hb00]at HZ0 hbg hbX ⊢
 clear hb00
 have hb0:=HZ0.out
 have c0:wz.cell? ⟨b0,0,none⟩=some (.pointer (some ⟨g,k*89,none⟩)):=(cell_of_row _ _ _ _ _ _ HPz.out).trans rfl
 have c1:wz.cell? ⟨b0,1,none⟩=some (.pointer (some ⟨X,0,none⟩)):=(cell_of_row _ _ _ _ _ _ HPz.out).trans rfl
 have c2:wz.cell? ⟨b0,2,none⟩=some (.int .i64 k):=(cell_of_row _ _ _ _ _ _ HPz.out).trans rfl
 have hgz:g<wz.heap.size:=HBz.out.lt.2.1
 have hXz:X<wz.heap.size:=HBz.out.lt.1
 refine aT (S:=fun W'=>Mut (fun n=>n=g) wz W') (by kernel_rfl) ?_
 intro wd hqx
 have hq0:Mut (fun n=>n=g) wz wd:=hqx.mut _
 refine aH 0 b0 0 rfl hq0 ?_
 refine tL 1 (_) rfl (aA rfl 79 _ rfl ⟨b0,0,none⟩ rfl (.pointer (some ⟨g,k*89,none⟩)) _ (fun W' hW'=>(hW'.cell (p:=⟨b0,0,none⟩) hb0 hbg).trans c0) Tryz.underlying79 rfl) hq0 ?_
 refine tL 2 (_) rfl (a4 rfl 112 _ rfl b0 rfl #[.pointer (some ⟨g,k*89,none⟩),.pointer (some ⟨X,0,none⟩),.int .i64 k] _ _ (fun W' hW'=>(hW'.heap hb0 hbg).trans HPz.out) Tryz.underlying112 rfl b8) hq0 ?_
 refine bB (i:=3) rfl rfl (by kernel_rfl) (fun K hK=>?_)
 go_simp
 refine(fQ wd F X g k (((B.setp k 28 (.bool false)).setp k 26 (.bool false)).setp k 24 (.bool false)) (HBz.out.ext hqx) okz hk).mono ?_
 rintro e wc1 ⟨he,hx⟩
 rw[kA (by decide),kA (by decide),kA (by decide)]at he
 obtain rfl:e=.returned (.int .i64 (cD B k)):=he
 have hq1:=hq0.trans (hx.mut _)
 have HBd:=hD (HBz.out.ext (hqx.trans hx))
 have e7:=(HBd.out.cellg (i:=k*89+7) (bZ hk (by decide))).trans (Br.ok.gi okz (k:=k) hk 7 rfl)
 have efr:=HBd.out.frozen
 refine hK.out _ _ hq1 (fun hHeld=>?_)
 try simp only[ps]
 clear hK K hHeld
 refine aH 4 g (k*89) rfl hq1 ?_
 refine aH 5 g (k*89+6) rfl hq1 ?_
 refine aH 6 g (k*89+7) rfl hq1 ?_
 refine bB (i:=7) rfl rfl (by kernel_rfl) (fun K hK=>?_)
 go_simp
 have hq2:=hq1.setCell (p:=⟨g,k*89+7,none⟩) (.inl rfl) (.int .i64 (cD B k))
 refine hK.out _ _ hq2 (fun hHeld=>?_)
 try simp only[ps]
 clear hK K hHeld
 refine wpAnyH_done (by kernel_rfl) ?_ _
 go_wp2_with fail
 go_end0
 exact⟨rfl,(HBd.out.setp (k:=k) (j:=7) hk (by decide) (.int .i64 (cD B k))),HMz.out.trans hq2⟩
theorem aGV(w:World)(F:Nat→Prop)(X g k:Nat)(B:Br)(h:BrG w F X g B)(ho:B.ok)(hk:k<B.np):Calls Tryz.prog 114 #[aJ g k X] w fun e w'=>e=.returned (.tuple #[])∧BrG w' F X g ((((B.setp k 12 (.int .i64 0)).setp k 47 (.bool true)).setp k 46 (.bool false)))∧Mut (fun n=>n=g) w w':=by
 obtain⟨hX,hg,hne⟩:=h.lt
 have hbg:¬w.heap.size=g:=by omega
 have hbX:¬w.heap.size=X:=by omega
 have hXg:¬X=g:=hne
 have hFg:=h.F2
 have e12:=(h.cellg (i:=k*89+12) (bZ hk (by decide))).trans (Br.ok.gi ho (k:=k) hk 12 rfl)
 have efr:=h.frozen
 have HMz:=hD (((Mut.refl (fun n=>n=g) w).setCell (p:=⟨g,k*89+12,none⟩) (.inl rfl) (.int .i64 0)).alloc (.cells #[.pointer (some ⟨g,k*89,none⟩),.pointer (some ⟨X,0,none⟩),.int .i64 k] 112))
 have HBz:=hD (BrG.alloc (h.setp (k:=k) (j:=12) hk (by decide) (.int .i64 0)) (.cells #[.pointer (some ⟨g,k*89,none⟩),.pointer (some ⟨X,0,none⟩),.int .i64 k] 112))
 have HPz:=hD (heap_alloc_new (w.setCell ⟨g,k*89+12,none⟩ (.int .i64 0)) (.cells #[.pointer (some ⟨g,k*89,none⟩),.pointer (some ⟨X,0,none⟩),.int .i64 k] 112))
 have HZ0:=hD (show w.heap.size<((w.setCell ⟨g,k*89+12,none⟩ (.int .i64 0)).alloc (.cells #[.pointer (some ⟨g,k*89,none⟩),.pointer (some ⟨X,0,none⟩),.int .i64 k] 112)).heap.size by simp)
 have okz:Br.ok (B.setp k 12 (.int .i64 0)):=(ho.setI (k:=k) hk 12 .i64 0 rfl (by decide))
 clear h
 unfold aJ
 go_enter Tryz.func114,Tryz.ntmps114
 go_wp2_with fail
 clear e12 efr
 have HZ1:=hD (show(w.setCell ⟨g,k*89+12,none⟩ (.int .i64 0)).heap.size=w.heap.size by simp)
 generalize hwz:((w.setCell ⟨g,k*89+12,none⟩ (.int .i64 0)).alloc (.cells #[.pointer (some ⟨g,k*89,none⟩),.pointer (some ⟨X,0,none⟩),.int .i64 k] 112))=wz at *
 clear hwz
 obtain⟨b0,hb00⟩:∃b,w.heap.size=b:=⟨_,rfl⟩
 have hPz:=HPz.out
 rw[HZ1.out,hb00]at hPz
 have HPz:=hD hPz
 clear hPz HZ1
 rw[hb00]at HZ0 hbg hbX ⊢
 clear hb00
 have hb0:=HZ0.out
 have c0:wz.cell? ⟨b0,0,none⟩=some (.pointer (some ⟨g,k*89,none⟩)):=(cell_of_row _ _ _ _ _ _ HPz.out).trans rfl
 have c1:wz.cell? ⟨b0,1,none⟩=some (.pointer (some ⟨X,0,none⟩)):=(cell_of_row _ _ _ _ _ _ HPz.out).trans rfl
 have c2:wz.cell? ⟨b0,2,none⟩=some (.int .i64 k):=(cell_of_row _ _ _ _ _ _ HPz.out).trans rfl
 have hgz:g<wz.heap.size:=HBz.out.lt.2.1
 have hXz:X<wz.heap.size:=HBz.out.lt.1
 refine aT (S:=fun W'=>Mut (fun n=>n=g) wz W') (by kernel_rfl) ?_
 intro wd hqx
 have hq0:Mut (fun n=>n=g) wz wd:=hqx.mut _
 have HBd:=hD (HBz.out.ext hqx)
 have e47:=(HBd.out.cellg (i:=k*89+47) (bZ hk (by decide))).trans (Br.ok.gb okz (k:=k) hk 47 rfl)
 have e46:=(HBd.out.cellg (i:=k*89+46) (bZ hk (by decide))).trans (Br.ok.gb okz (k:=k) hk 46 rfl)
 have efr:=HBd.out.frozen
 refine aH 0 b0 0 rfl hq0 ?_
 refine tL 1 (_) rfl (aA rfl 79 _ rfl ⟨b0,0,none⟩ rfl (.pointer (some ⟨g,k*89,none⟩)) _ (fun W' hW'=>(hW'.cell (p:=⟨b0,0,none⟩) hb0 hbg).trans c0) Tryz.underlying79 rfl) hq0 ?_
 refine aH 2 b0 0 rfl hq0 ?_
 refine tL 3 (_) rfl (aA rfl 79 _ rfl ⟨b0,0,none⟩ rfl (.pointer (some ⟨g,k*89,none⟩)) _ (fun W' hW'=>(hW'.cell (p:=⟨b0,0,none⟩) hb0 hbg).trans c0) Tryz.underlying79 rfl) hq0 ?_
 refine aH 4 g (k*89) rfl hq0 ?_
 refine aH 5 g (k*89+22) rfl hq0 ?_
 refine aH 6 g (k*89+47) rfl hq0 ?_
 refine bB (i:=7) rfl rfl (by kernel_rfl) (fun K hK=>?_)
 go_simp
 have hq1:=hq0.setCell (p:=⟨g,k*89+47,none⟩) (.inl rfl) (.bool true)
 refine hK.out _ _ hq1 (fun hHeld=>?_)
 try simp only[ps]
 clear hK K hHeld
 refine aH 8 g (k*89) rfl hq1 ?_
 refine aH 9 g (k*89+22) rfl hq1 ?_
 refine aH 10 g (k*89+46) rfl hq1 ?_
 refine bB (i:=11) rfl rfl (by kernel_rfl) (fun K hK=>?_)
 go_simp
 have hq2:=hq1.setCell (p:=⟨g,k*89+46,none⟩) (.inl rfl) (.bool false)
 refine hK.out _ _ hq2 (fun hHeld=>?_)
 try simp only[ps]
 clear hK K hHeld
 refine wpAnyH_done (by kernel_rfl) ?_ _
 go_wp2_with fail
 go_end0
 exact⟨rfl,((HBd.out.setp (k:=k) (j:=47) hk (by decide) (.bool true)).setp (k:=k) (j:=46) hk (by decide) (.bool false)),HMz.out.trans hq2⟩
theorem xF(w:World)(F:Nat→Prop)(X g k:Nat)(B:Br)(h:BrG w F X g B)(ho:B.ok)(hk:k<B.np):Calls Tryz.prog 112 #[aJ g k X] w fun e w'=>e=.returned (.tuple #[])∧BrG w' F X g ((((B.setp k 34 (.bool true)).setp k 31 (.bool true)).setp k 6 (.int .i64 (sQ B k))))∧Mut (fun n=>n=g) w w':=by
 obtain⟨hX,hg,hne⟩:=h.lt
 have hbg:¬w.heap.size=g:=by omega
 have hbX:¬w.heap.size=X:=by omega
 have hXg:¬X=g:=hne
 have hFg:=h.F2
 have HMz:=hD ((Mut.refl (fun n=>n=g) w).alloc (.cells #[.pointer (some ⟨g,k*89,none⟩),.pointer (some ⟨X,0,none⟩),.int .i64 k] 112))
 have HBz:=hD (BrG.alloc h (.cells #[.pointer (some ⟨g,k*89,none⟩),.pointer (some ⟨X,0,none⟩),.int .i64 k] 112))
 have HPz:=hD (heap_alloc_new w (.cells #[.pointer (some ⟨g,k*89,none⟩),.pointer (some ⟨X,0,none⟩),.int .i64 k] 112))
 have HZ0:=hD (show w.heap.size<(w.alloc (.cells #[.pointer (some ⟨g,k*89,none⟩),.pointer (some ⟨X,0,none⟩),.int .i64 k] 112)).heap.size by simp)
 have okz:Br.ok B:=ho
 clear h
 unfold aJ
 go_enter Tryz.func112,Tryz.ntmps112
 go_wp2_with fail
 have HZ1:=hD (show w.heap.size=w.heap.size by simp)
 generalize hwz:(w.alloc (.cells #[.pointer (some ⟨g,k*89,none⟩),.pointer (some ⟨X,0,none⟩),.int .i64 k] 112))=wz at *
 clear hwz
 obtain⟨b0,hb00⟩:∃b,w.heap.size=b:=⟨_,rfl⟩
 have hPz:=HPz.out
 rw[HZ1.out,hb00]at hPz
 have HPz:=hD hPz
 clear hPz HZ1
 rw[hb00]at HZ0 hbg hbX ⊢
 clear hb00
 have hb0:=HZ0.out
 have c0:wz.cell? ⟨b0,0,none⟩=some (.pointer (some ⟨g,k*89,none⟩)):=(cell_of_row _ _ _ _ _ _ HPz.out).trans rfl
 have c1:wz.cell? ⟨b0,1,none⟩=some (.pointer (some ⟨X,0,none⟩)):=(cell_of_row _ _ _ _ _ _ HPz.out).trans rfl
 have c2:wz.cell? ⟨b0,2,none⟩=some (.int .i64 k):=(cell_of_row _ _ _ _ _ _ HPz.out).trans rfl
 have hgz:g<wz.heap.size:=HBz.out.lt.2.1
 have hXz:X<wz.heap.size:=HBz.out.lt.1
 refine aT (S:=fun W'=>Mut (fun n=>n=g) wz W') (by kernel_rfl) ?_
 intro wd hqx
 have hq0:Mut (fun n=>n=g) wz wd:=hqx.mut _
 have HBd:=hD (HBz.out.ext hqx)
 have e34:=(HBd.out.cellg (i:=k*89+34) (bZ hk (by decide))).trans (Br.ok.gb ho (k:=k) hk 34 rfl)
 have e31:=(HBd.out.cellg (i:=k*89+31) (bZ hk (by decide))).trans (Br.ok.gb ho (k:=k) hk 31 rfl)
 have efr:=HBd.out.frozen
 refine aH 0 b0 0 rfl hq0 ?_
 refine tL 1 (_) rfl (aA rfl 79 _ rfl ⟨b0,0,none⟩ rfl (.pointer (some ⟨g,k*89,none⟩)) _ (fun W' hW'=>(hW'.cell (p:=⟨b0,0,none⟩) hb0 hbg).trans c0) Tryz.underlying79 rfl) hq0 ?_
 refine aH 2 b0 0 rfl hq0 ?_
 refine tL 3 (_) rfl (aA rfl 79 _ rfl ⟨b0,0,none⟩ rfl (.pointer (some ⟨g,k*89,none⟩)) _ (fun W' hW'=>(hW'.cell (p:=⟨b0,0,none⟩) hb0 hbg).trans c0) Tryz.underlying79 rfl) hq0 ?_
 refine aH 4 g (k*89) rfl hq0 ?_
 refine aH 5 g (k*89+22) rfl hq0 ?_
 refine aH 6 g (k*89+34) rfl hq0 ?_
 refine bB (i:=7) rfl rfl (by kernel_rfl) (fun K hK=>?_)
 go_simp
 have hq1:=hq0.setCell (p:=⟨g,k*89+34,none⟩) (.inl rfl) (.bool true)
 refine hK.out _ _ hq1 (fun hHeld=>?_)
 try simp only[ps]
 clear hK K hHeld
 refine aH 8 g (k*89) rfl hq1 ?_
 refine aH 9 g (k*89+22) rfl hq1 ?_
 refine aH 10 g (k*89+31) rfl hq1 ?_
 refine bB (i:=11) rfl rfl (by kernel_rfl) (fun K hK=>?_)
 go_simp
 have hq2:=hq1.setCell (p:=⟨g,k*89+31,none⟩) (.inl rfl) (.bool true)
 refine hK.out _ _ hq2 (fun hHeld=>?_)
 try simp only[ps]
 clear hK K hHeld
 refine wpAnyH_done (by kernel_rfl) ?_ _
 have HMz2:=hD (HMz.out.trans hq2)
 have HPz2:=hD ((hq2.heap hb0 hbg).trans HPz.out)
 have HZ2:=hD (nL hb0 hq2.size)
 have HBz2:=hD ((HBd.out.setp (k:=k) (j:=34) hk (by decide) (.bool true)).setp (k:=k) (j:=31) hk (by decide) (.bool true))
 clear HMz HPz HZ0 HBz okz c0 c1 c2 hgz hXz hb0 hqx hq0 hq1 hq2 e34 e31 efr HBd
 have HMz:=HMz2
 have HPz:=HPz2
 have HZ0:=HZ2
 have HBz:=HBz2
 have okz:Br.ok ((B.setp k 34 (.bool true)).setp k 31 (.bool true)):=((ho.setB (k:=k) hk 34 true rfl).setB (k:=k) hk 31 true rfl)
 clear HMz2 HPz2 HZ2 HBz2
 go_wp2_with fail
 generalize hwz:((wd.setCell ⟨g,k*89+34,none⟩ (.bool true)).setCell ⟨g,k*89+31,none⟩ (.bool true))=wz at *
 clear hwz
 have hb0:=HZ0.out
 have c0:wz.cell? ⟨b0,0,none⟩=some (.pointer (some ⟨g,k*89,none⟩)):=(cell_of_row _ _ _ _ _ _ HPz.out).trans rfl
 have c1:wz.cell? ⟨b0,1,none⟩=some (.pointer (some ⟨X,0,none⟩)):=(cell_of_row _ _ _ _ _ _ HPz.out).trans rfl
 have c2:wz.cell? ⟨b0,2,none⟩=some (.int .i64 k):=(cell_of_row _ _ _ _ _ _ HPz.out).trans rfl
 have hgz:g<wz.heap.size:=HBz.out.lt.2.1
 have hXz:X<wz.heap.size:=HBz.out.lt.1
 obtain⟨C,hC,hCb,hCz⟩:=HBz.out.br (show 0<Br.np ((B.setp k 34 (.bool true)).setp k 31 (.bool true)) by show 0<B.np;omega)
 have HC:=hD hC
 have HCb:=hD hCb
 have HCi:=hD (show(Tryz.prog.info? 35).map (·.size)=some C.size by rw[hCz,okz.hd.1];exact kZ)
 clear hC hCb hCz
 refine aT (S:=fun W'=>Mut (fun n=>n=g) wz W') (by kernel_rfl) ?_
 intro wd hqx
 have hq0:Mut (fun n=>n=g) wz wd:=hqx.mut _
 refine aH 0 b0 0 rfl hq0 ?_
 refine tL 1 (_) rfl (aA rfl 79 _ rfl ⟨b0,0,none⟩ rfl (.pointer (some ⟨g,k*89,none⟩)) _ (fun W' hW'=>(hW'.cell (p:=⟨b0,0,none⟩) hb0 hbg).trans c0) Tryz.underlying79 rfl) hq0 ?_
 refine aH 2 b0 1 rfl hq0 ?_
 refine tL 3 (_) rfl (aA rfl 52 _ rfl ⟨b0,1,none⟩ rfl (.pointer (some ⟨X,0,none⟩)) _ (fun W' hW'=>(hW'.cell (p:=⟨b0,1,none⟩) hb0 hbg).trans c1) Tryz.underlying52 rfl) hq0 ?_
 refine aH 4 X 0 rfl hq0 ?_
 refine tL 5 (_) rfl (a4 rfl 35 _ rfl X rfl C _ _ (fun W' hW'=>(hW'.heap hXz hXg).trans HC.out) Tryz.underlying35 rfl HCi.out) hq0 ?_
 refine aH 6 b0 2 rfl hq0 ?_
 refine tL 7 (_) rfl (aA rfl 3 _ rfl ⟨b0,2,none⟩ rfl (.int .i64 k) _ (fun W' hW'=>(hW'.cell (p:=⟨b0,2,none⟩) hb0 hbg).trans c2) Tryz.underlying3 rfl) hq0 ?_
 refine bB (i:=8) rfl rfl (by kernel_rfl) (fun K hK=>?_)
 go_simp
 refine(aBO C ((B.setp k 34 (.bool true)).setp k 31 (.bool true)) k _ (HCb.out.ext hqx) okz hk).mono ?_
 rintro e wc1 ⟨he,hx⟩
 rw[iU _ _ _ _ _ (by decide),iU _ _ _ _ _ (by decide)]at he
 obtain rfl:e=.returned (.int .i64 (sQ B k)):=he
 have hq1:=hq0.trans (hx.mut _)
 have HBd:=hD (HBz.out.ext (hqx.trans hx))
 have e6:=(HBd.out.cellg (i:=k*89+6) (bZ hk (by decide))).trans (Br.ok.gi okz (k:=k) hk 6 rfl)
 have efr:=HBd.out.frozen
 refine hK.out _ _ hq1 (fun hHeld=>?_)
 try simp only[ps]
 clear hK K hHeld
 refine aH 9 g (k*89) rfl hq1 ?_
 refine aH 10 g (k*89+6) rfl hq1 ?_
 refine aH 11 g (k*89+6) rfl hq1 ?_
 refine bB (i:=12) rfl rfl (by kernel_rfl) (fun K hK=>?_)
 go_simp
 have hq2:=hq1.setCell (p:=⟨g,k*89+6,none⟩) (.inl rfl) (.int .i64 (sQ B k))
 refine hK.out _ _ hq2 (fun hHeld=>?_)
 try simp only[ps]
 clear hK K hHeld
 refine wpAnyH_done (by kernel_rfl) ?_ _
 go_wp2_with fail
 go_end0
 exact⟨rfl,(HBd.out.setp (k:=k) (j:=6) hk (by decide) (.int .i64 (sQ B k))),HMz.out.trans hq2⟩
theorem jW(w:World)(F:Nat→Prop)(X g k:Nat)(B:Br)(h:BrG w F X g B)(ho:B.ok)(hk:k<B.np):Calls Tryz.prog 153 #[aJ g k X] w fun e w'=>e=.returned (.bool (dX B k))∧Ext w w':=by
 unfold dX
 obtain⟨x23,e23⟩:∃b,B.gb k 23=b:=⟨_,rfl⟩
 rw[e23]
 have HE23:=hD e23
 clear e23
 obtain⟨x32,e32⟩:∃b,B.gb k 32=b:=⟨_,rfl⟩
 rw[e32]
 have HE32:=hD e32
 clear e32
 obtain⟨x42,e42⟩:∃b,B.gb k 42=b:=⟨_,rfl⟩
 rw[e42]
 have HE42:=hD e42
 clear e42
 obtain⟨x46,e46⟩:∃b,B.gb k 46=b:=⟨_,rfl⟩
 rw[e46]
 have HE46:=hD e46
 clear e46
 obtain⟨x7,e7⟩:∃b,B.gi k 7=b:=⟨_,rfl⟩
 obtain⟨x12,e12⟩:∃b,B.gi k 12=b:=⟨_,rfl⟩
 rw[e7,e12]
 have HE7:=hD e7
 have HE12:=hD e12
 clear e7 e12
 obtain⟨hX,hg,hne⟩:=h.lt
 have hEz:=(Ext.refl w).alloc (.cells #[.pointer (some ⟨g,k*89,none⟩),.pointer (some ⟨X,0,none⟩),.int .i64 k] 112)
 have hBz:=h.alloc (.cells #[.pointer (some ⟨g,k*89,none⟩),.pointer (some ⟨X,0,none⟩),.int .i64 k] 112)
 have hPz:=heap_alloc_new w (.cells #[.pointer (some ⟨g,k*89,none⟩),.pointer (some ⟨X,0,none⟩),.int .i64 k] 112)
 have hb0:w.heap.size<(w.alloc (.cells #[.pointer (some ⟨g,k*89,none⟩),.pointer (some ⟨X,0,none⟩),.int .i64 k] 112)).heap.size:=by simp
 have hbg:w.heap.size≠g:=by omega
 have hbX:w.heap.size≠X:=by omega
 have HEz:=hD hEz
 have HBz:=hD hBz
 have HPz:=hD hPz
 have HZ0:=hD hb0
 clear hEz hBz hPz hb0 h
 unfold aJ
 go_enter Tryz.func153,Tryz.ntmps153
 go_wp2_with fail
 generalize w.alloc (.cells #[.pointer (some ⟨g,k*89,none⟩),.pointer (some ⟨X,0,none⟩),.int .i64 k] 112)=wz at *
 obtain⟨b0,hb00⟩:∃b,w.heap.size=b:=⟨_,rfl⟩
 rw[hb00]at HPz HZ0 hbg hbX ⊢
 clear hb00
 have hb0:=HZ0.out
 have hBz:=HBz.out
 have c0:wz.cell? ⟨b0,0,none⟩=some (.pointer (some ⟨g,k*89,none⟩)):=(cell_of_row _ _ _ _ _ _ HPz.out).trans rfl
 have c1:wz.cell? ⟨b0,1,none⟩=some (.pointer (some ⟨X,0,none⟩)):=(cell_of_row _ _ _ _ _ _ HPz.out).trans rfl
 have c2:wz.cell? ⟨b0,2,none⟩=some (.int .i64 k):=(cell_of_row _ _ _ _ _ _ HPz.out).trans rfl
 have hgz:g<wz.heap.size:=hBz.lt.2.1
 have hXz:X<wz.heap.size:=hBz.lt.1
 refine aT (S:=fun W'=>Ext wz W') (by kernel_rfl) ?_
 intro wd hqx
 have hq0:Ext wz wd:=hqx
 refine aH 0 b0 0 rfl hq0 ?_
 refine tL 1 (_) rfl (aA rfl 79 _ rfl ⟨b0,0,none⟩ rfl (.pointer (some ⟨g,k*89,none⟩)) _ (fun W' hW'=>(hW'.cell (p:=⟨b0,0,none⟩) hb0).trans c0) Tryz.underlying79 rfl) hq0 ?_
 refine aH 2 g (k*89) rfl hq0 ?_
 refine aH 3 g (k*89+22) rfl hq0 ?_
 refine aH 4 b0 0 rfl hq0 ?_
 refine tL 5 (_) rfl (aA rfl 79 _ rfl ⟨b0,0,none⟩ rfl (.pointer (some ⟨g,k*89,none⟩)) _ (fun W' hW'=>(hW'.cell (p:=⟨b0,0,none⟩) hb0).trans c0) Tryz.underlying79 rfl) hq0 ?_
 refine aH 6 g (k*89) rfl hq0 ?_
 refine aH 7 g (k*89+6) rfl hq0 ?_
 refine aH 8 g (k*89+22) rfl hq0 ?_
 refine aH 9 g (k*89+6) rfl hq0 ?_
 refine wpAnyH_done (by kernel_rfl) ?_ _
 have hBd:=hBz.ext hq0
 have p23:=qb hBd ho hk 23
 have p32:=qb hBd ho hk 32
 have p42:=qb hBd ho hk 42
 have p46:=qb hBd ho hk 46
 have p7:=qi hBd ho hk 7 rfl
 have p12:=qi hBd ho hk 12 rfl
 rw[HE23.out]at p23
 rw[HE32.out]at p32
 rw[HE42.out]at p42
 rw[HE46.out]at p46
 rw[HE7.out]at p7
 rw[HE12.out]at p12
 have HQ:=hD hq0
 clear hBd hBz hq0 hqx c0 c1 c2 hgz hXz hb0
 cases h7:(x7 == 0)
 ·cases x23
  ·cases x32
   ·go_wp2_with fail
    go_ret
    exact⟨by first|(simp;done)|(simp[hz];done)|(simp[h7];done)|(simp[h7,hz];done),HEz.out.trans HQ.out⟩
   ·cases x42
    ·go_wp2_with fail
     go_ret
     exact⟨by first|(simp;done)|(simp[hz];done)|(simp[h7];done)|(simp[h7,hz];done),HEz.out.trans HQ.out⟩
    ·cases hz:(x12 == 0)
     ·go_wp2_with fail
      go_ret
      exact⟨by first|(simp;done)|(simp[hz];done)|(simp[h7];done)|(simp[h7,hz];done),HEz.out.trans HQ.out⟩
     ·go_wp2_with fail
      go_ret
      exact⟨by first|(simp;done)|(simp[hz];done)|(simp[h7];done)|(simp[h7,hz];done),HEz.out.trans HQ.out⟩
  ·cases x42
   ·go_wp2_with fail
    go_ret
    exact⟨by first|(simp;done)|(simp[hz];done)|(simp[h7];done)|(simp[h7,hz];done),HEz.out.trans HQ.out⟩
   ·cases hz:(x12 == 0)
    ·go_wp2_with fail
     go_ret
     exact⟨by first|(simp;done)|(simp[hz];done)|(simp[h7];done)|(simp[h7,hz];done),HEz.out.trans HQ.out⟩
    ·go_wp2_with fail
     go_ret
     exact⟨by first|(simp;done)|(simp[hz];done)|(simp[h7];done)|(simp[h7,hz];done),HEz.out.trans HQ.out⟩
 ·cases x42
  ·go_wp2_with fail
   go_ret
   exact⟨by first|(simp;done)|(simp[hz];done)|(simp[h7];done)|(simp[h7,hz];done),HEz.out.trans HQ.out⟩
  ·cases hz:(x12 == 0)
   ·go_wp2_with fail
    go_ret
    exact⟨by first|(simp;done)|(simp[hz];done)|(simp[h7];done)|(simp[h7,hz];done),HEz.out.trans HQ.out⟩
   ·go_wp2_with fail
    go_ret
    exact⟨by first|(simp;done)|(simp[hz];done)|(simp[h7];done)|(simp[h7,hz];done),HEz.out.trans HQ.out⟩
theorem lF(w:World)(F:Nat→Prop)(X g k:Nat)(B:Br)(h:BrG w F X g B)(ho:B.ok)(hk:k<B.np):Calls Tryz.prog 118 #[aJ g k X] w fun e w'=>e=.returned (.bool (dX B k && !B.gb k 28))∧Ext w w':=by
 obtain⟨hX,hg,hne⟩:=h.lt
 have H:=hD h
 obtain⟨m,hm⟩:∃m,dX B k=m:=⟨_,rfl⟩
 rw[hm]
 have HM:=hD hm
 clear hm
 obtain⟨x28,e28⟩:∃b,B.gb k 28=b:=⟨_,rfl⟩
 rw[e28]
 have HE28:=hD e28
 clear e28
 unfold aJ
 go_enter Tryz.func118,Tryz.ntmps118
 go_wp2_with fail
 refine(jW _ F X g k B (H.out.ext ((Ext.refl w).alloc _)) ho hk).mono ?_
 rintro e w1 ⟨he,hx⟩
 rw[HM.out]at he
 obtain rfl:e=.returned (.bool m):=he
 have hP:=(hx.block _ (by simp)).trans (heap_alloc_new w _)
 have c0:w1.cell? ⟨w.heap.size,0,none⟩=some (.pointer (some ⟨g,k*89,none⟩)):=(cell_of_row _ _ _ _ _ _ hP).trans rfl
 have hB1:=H.out.ext (((Ext.refl w).alloc _).trans hx)
 have HX:=hD hx
 have p28:=qb hB1 ho hk 28
 rw[HE28.out]at p28
 clear h hX hg hne hx hP hB1
 cases m
 all_goals
  go_wp2_with fail
  go_ret
  exact⟨by simp,((Ext.refl w).alloc _).trans HX.out⟩
theorem kJ(w:World)(F:Nat→Prop)(X g k:Nat)(B:Br)(h:BrG w F X g B)(ho:B.ok)(hk:k<B.np):Calls Tryz.prog 119 #[aJ g k X] w fun e w'=>e=.returned (.bool (dX B k && B.gb k 28 && !B.gb k 26))∧Ext w w':=by
 obtain⟨hX,hg,hne⟩:=h.lt
 have H:=hD h
 obtain⟨m,hm⟩:∃m,dX B k=m:=⟨_,rfl⟩
 rw[hm]
 have HM:=hD hm
 clear hm
 obtain⟨x28,e28⟩:∃b,B.gb k 28=b:=⟨_,rfl⟩
 rw[e28]
 have HE28:=hD e28
 clear e28
 obtain⟨x26,e26⟩:∃b,B.gb k 26=b:=⟨_,rfl⟩
 rw[e26]
 have HE26:=hD e26
 clear e26
 unfold aJ
 go_enter Tryz.func119,Tryz.ntmps119
 go_wp2_with fail
 refine(jW _ F X g k B (H.out.ext ((Ext.refl w).alloc _)) ho hk).mono ?_
 rintro e w1 ⟨he,hx⟩
 rw[HM.out]at he
 obtain rfl:e=.returned (.bool m):=he
 have hP:=(hx.block _ (by simp)).trans (heap_alloc_new w _)
 have c0:w1.cell? ⟨w.heap.size,0,none⟩=some (.pointer (some ⟨g,k*89,none⟩)):=(cell_of_row _ _ _ _ _ _ hP).trans rfl
 have hB1:=H.out.ext (((Ext.refl w).alloc _).trans hx)
 have HX:=hD hx
 have p28:=qb hB1 ho hk 28
 rw[HE28.out]at p28
 have p26:=qb hB1 ho hk 26
 rw[HE26.out]at p26
 clear h hX hg hne hx hP hB1
 cases m<;>cases x28
 all_goals
  go_wp2_with fail
  go_ret
  exact⟨by simp,((Ext.refl w).alloc _).trans HX.out⟩
theorem pG(w:World)(F:Nat→Prop)(X g k:Nat)(B:Br)(h:BrG w F X g B)(ho:B.ok)(hk:k<B.np)(hF:∀n,F n→n<w.heap.size):Calls Tryz.prog 100 #[aJ g k X] w fun e w'=>e=.returned (.tuple #[])∧BrG w' F X g ((gF B k).setp k 46 (.bool false))∧Mut F w w':=by
 obtain⟨hX,hg,hne⟩:=h.lt
 have H:=hD h
 have hnb:¬F w.heap.size:=fun hh=>by have:=hF _ hh;omega
 have okz:Br.ok (gF B k):=((ho.setB hk 33 false rfl).setB (k:=k) hk 22 true rfl).setB (k:=k) hk 31 true rfl
 clear h hF
 unfold aJ
 go_enter Tryz.func100,Tryz.ntmps100
 go_wp2_with fail
 refine(uM _ F X g k _ (H.out.alloc _) ho hk).mono ?_
 rintro e w1 ⟨rfl,hb,hm⟩
 have hb:BrG w1 F X g (gF B k):=hb
 have hP:=(hm.heap (by simp) hnb).trans (heap_alloc_new w _)
 have c0:w1.cell? ⟨w.heap.size,0,none⟩=some (.pointer (some ⟨g,k*89,none⟩)):=(cell_of_row _ _ _ _ _ _ hP).trans rfl
 have e46:=(hb.cellg (i:=k*89+46) (bZ hk (by decide))).trans (Br.ok.gb okz (k:=k) hk 46 rfl)
 have efr:=hb.frozen
 have HM:=hD (((Mut.refl F w).alloc _).trans hm)
 have HB1:=hD hb
 clear hm hb hP
 go_wp2_with fail
 go_end0
 exact⟨rfl,HB1.out.setp (k:=k) (j:=46) hk (by decide) _,HM.out.setCell (.inl HB1.out.F2) _⟩
theorem kU(w:World)(F:Nat→Prop)(X g k:Nat)(B:Br)(h:BrG w F X g B)(ho:B.ok)(hk:k<B.np)(hF:∀n,F n→n<w.heap.size):Calls Tryz.prog 120 #[aJ g k X] w fun e w'=>e=.returned (.tuple #[])∧BrG w' F X g ((jV B k).setp k 23 (.bool (B.gb k 45)))∧Mut F w w':=by
 obtain⟨hX,hg,hne⟩:=h.lt
 have H:=hD h
 have hnb:¬F w.heap.size:=fun hh=>by have:=hF _ hh;omega
 have okz:Br.ok (jV B k):=(ho.setB hk 26 true rfl).setI (k:=k) hk 7 .i64 0 rfl (by decide)
 have he45:(jV B k).gb k 45=B.gb k 45:=by unfold jV;rw[iU _ _ _ _ _ (by decide),iU _ _ _ _ _ (by decide)]
 have HE:=hD he45
 clear h hF he45
 unfold aJ
 go_enter Tryz.func120,Tryz.ntmps120
 go_wp2_with fail
 refine(pD _ F X g k _ (H.out.alloc _) ho hk).mono ?_
 rintro e w1 ⟨rfl,hb,hm⟩
 have hb:BrG w1 F X g (jV B k):=hb
 have HP:=hD ((hm.heap (by simp) hnb).trans (heap_alloc_new w _))
 have HM1:=hD (((Mut.refl F w).alloc _).trans hm)
 have HB1:=hD hb
 clear hm hb
 go_wp2_with fail
 refine aS 9 (by kernel_rfl) (by kernel_rfl) ?_
 intro y hy
 have hyx:Ext w1 y:=by
  rw[hy]
  exact(Ext.refl _).drew
 clear hy
 have HY:=hD (HB1.out.ext hyx)
 have HM:=hD (HM1.out.trans (hyx.mut F))
 have e0:y.cell? ⟨w.heap.size,0,none⟩=some (.pointer (some ⟨g,k*89,none⟩)):=(cell_of_row _ _ _ _ _ _ ((hyx.block _ (aC HP.out)).trans HP.out)).trans rfl
 have e45:=(HY.out.cellg (i:=k*89+45) (bZ hk (by decide))).trans (Br.ok.gb okz (k:=k) hk 45 rfl)
 rw[HE.out]at e45
 have e23:=(HY.out.cellg (i:=k*89+23) (bZ hk (by decide))).trans (Br.ok.gb okz (k:=k) hk 23 rfl)
 have efr:=HY.out.frozen
 clear hyx
 simp only[List.take_succ_cons,List.take_zero,List.drop_succ_cons,List.drop_zero]
 repeat still_step
 refine wpStill_nil ?_
 go_wp2_with fail
 go_end0
 exact⟨rfl,HY.out.setp (k:=k) (j:=23) hk (by decide) _,HM.out.setCell (.inl HY.out.F2) _⟩
theorem rE(w:World)(F:Nat→Prop)(X g k:Nat)(B:Br)(h:BrG w F X g B)(ho:B.ok)(hk:k<B.np)(hn:B.np<1000):Calls Tryz.prog 94 #[aJ g k X] w fun e w'=>e=.returned (.tuple #[])∧BrG w' F X g (jU B k)∧Mut (fun n=>n=g) w w':=by
 obtain⟨cap,c17,hc1,hc2⟩:=h.cell17 ho
 obtain⟨hX,hg,hne⟩:=h.lt
 have hbg:¬w.heap.size=g:=by omega
 have hbX:¬w.heap.size=X:=by omega
 have hXg:¬X=g:=hne
 have hFg:=h.F2
 have HMz:=hD ((Mut.refl (fun n=>n=g) w).alloc (.cells #[.pointer (some ⟨g,k*89,none⟩),.pointer (some ⟨X,0,none⟩),.int .i64 k] 112))
 have HBz:=hD (BrG.alloc h (.cells #[.pointer (some ⟨g,k*89,none⟩),.pointer (some ⟨X,0,none⟩),.int .i64 k] 112))
 have HPz:=hD (heap_alloc_new w (.cells #[.pointer (some ⟨g,k*89,none⟩),.pointer (some ⟨X,0,none⟩),.int .i64 k] 112))
 have HZ0:=hD (show w.heap.size<(w.alloc (.cells #[.pointer (some ⟨g,k*89,none⟩),.pointer (some ⟨X,0,none⟩),.int .i64 k] 112)).heap.size by simp)
 have okz:Br.ok B:=ho
 have HC17:=hD (show ∀w',Ext w w'→w'.cell? ⟨X,17,none⟩=some (.slice (some ⟨g,0,none⟩) B.np cap)from fun w' hx=>(hx.cell hX).trans c17)
 clear h
 unfold aJ
 go_enter Tryz.func94,Tryz.ntmps94
 have hB17:=HC17.out (w.alloc (.cells #[.pointer (some ⟨g,k*89,none⟩),.pointer (some ⟨X,0,none⟩),.int .i64 k] 112)) ((Ext.refl w).alloc _)
 go_wp2_with fail
 generalize hwz:w.alloc (.cells #[.pointer (some ⟨g,k*89,none⟩),.pointer (some ⟨X,0,none⟩),.int .i64 k] 112)=wz at *
 clear hwz
 obtain⟨b0,hb00⟩:∃b,w.heap.size=b:=⟨_,rfl⟩
 rw[hb00]at HZ0 HPz hbg hbX ⊢
 clear hb00 hB17 HC17 c17
 have hb0:=HZ0.out
 have c0:wz.cell? ⟨b0,0,none⟩=some (.pointer (some ⟨g,k*89,none⟩)):=(cell_of_row _ _ _ _ _ _ HPz.out).trans rfl
 have c1:wz.cell? ⟨b0,1,none⟩=some (.pointer (some ⟨X,0,none⟩)):=(cell_of_row _ _ _ _ _ _ HPz.out).trans rfl
 have c2:wz.cell? ⟨b0,2,none⟩=some (.int .i64 k):=(cell_of_row _ _ _ _ _ _ HPz.out).trans rfl
 have hgz:g<wz.heap.size:=HBz.out.lt.2.1
 have hXz:X<wz.heap.size:=HBz.out.lt.1
 have HC0:=hD c0
 have HC1:=hD c1
 clear c0 c1 c2
 go_loopw [9] (fun v wr=>∃n:Nat,n≤B.np∧v=.int .i64 n∧BrG wr F X g (B.upd 46 (fun _=>.bool true) n)∧Mut (fun n=>n=g) wz wr) (fun v _=>B.np - (intOf v).toNat)
 case atStart=>exact⟨0,by omega,rfl,HBz.out,Mut.refl _ _⟩
 case round =>
  obtain⟨n,hn2,rfl,hB,hm⟩:=hrel
  have c0:=(hm.cell (p:=⟨b0,0,none⟩) hb0 hbg).trans HC0.out
  have c1:=(hm.cell (p:=⟨b0,1,none⟩) hb0 hbg).trans HC1.out
  have HB:=hD hB
  have HM:=hD hm
  clear hB hm
  have okn:Br.ok (B.upd 46 (fun _=>.bool true) n):=oY ho (by decide) (fun i c hc=>by cases hc;exact⟨_,rfl⟩) n hn2
  have hnp:Br.np (B.upd 46 (fun _=>.bool true) n)=B.np:=gS _ _ _ _
  obtain⟨cap2,c17,hc3,hc4⟩:=HB.out.cell17 okn
  rw[hnp]at c17 hc3
  by_cases hlt:n<B.np
  ·have hkn:n<Br.np (B.upd 46 (fun _=>.bool true) n):=by rw[hnp];exact hlt
   have p46:=(HB.out.cellg (i:=n*89+46) (bZ hkn (by decide))).trans (okn.gb hkn 46 rfl)
   have hfr:=HB.out.frozen
   clear hc3 hc4 hc1 hc2
   go_wp2_with fail
   go_roundw
   case rel=>exact⟨n+1,by omega,by go_num,HB.out.setp (k:=n) (j:=46) hkn (by decide) _,HM.out.setCell (.inl rfl) _⟩
   case measure=>simp[intOf];omega
  ·obtain rfl:n=B.np:=by omega
   have hkn:k<Br.np (B.upd 46 (fun _=>.bool true) B.np):=by rw[hnp];exact hk
   have p33:=(HB.out.cellg (i:=k*89+33) (bZ hkn (by decide))).trans (okn.gb hkn 33 rfl)
   have hfr:=HB.out.frozen
   clear hc3 hc4 hc1 hc2 c17
   go_wp2_with fail
   go_end0
   exact⟨rfl,HB.out.setp (k:=k) (j:=33) hkn (by decide) _,(HMz.out.trans HM.out).setCell (.inl rfl) _⟩
theorem sT(w:World)(F:Nat→Prop)(X g k:Nat)(B:Br)(h:BrG w F X g B)(ho:B.ok)(hk:k<B.np)(hn:B.np<1000):Calls Tryz.prog 102 #[aJ g k X] w fun e w'=>e=.returned (.tuple #[])∧BrG w' F X g (oL B)∧Mut (fun n=>n=g) w w':=by
 obtain⟨cap,c17,hc1,hc2⟩:=h.cell17 ho
 obtain⟨hX,hg,hne⟩:=h.lt
 have hbg:¬w.heap.size=g:=by omega
 have hbX:¬w.heap.size=X:=by omega
 have hXg:¬X=g:=hne
 have hFg:=h.F2
 have HMz:=hD ((Mut.refl (fun n=>n=g) w).alloc (.cells #[.pointer (some ⟨g,k*89,none⟩),.pointer (some ⟨X,0,none⟩),.int .i64 k] 112))
 have HBz:=hD (BrG.alloc h (.cells #[.pointer (some ⟨g,k*89,none⟩),.pointer (some ⟨X,0,none⟩),.int .i64 k] 112))
 have HPz:=hD (heap_alloc_new w (.cells #[.pointer (some ⟨g,k*89,none⟩),.pointer (some ⟨X,0,none⟩),.int .i64 k] 112))
 have HZ0:=hD (show w.heap.size<(w.alloc (.cells #[.pointer (some ⟨g,k*89,none⟩),.pointer (some ⟨X,0,none⟩),.int .i64 k] 112)).heap.size by simp)
 have okz:Br.ok B:=ho
 have HC17:=hD (show ∀w',Ext w w'→w'.cell? ⟨X,17,none⟩=some (.slice (some ⟨g,0,none⟩) B.np cap)from fun w' hx=>(hx.cell hX).trans c17)
 clear h
 unfold aJ
 go_enter Tryz.func102,Tryz.ntmps102
 have hB17:=HC17.out (w.alloc (.cells #[.pointer (some ⟨g,k*89,none⟩),.pointer (some ⟨X,0,none⟩),.int .i64 k] 112)) ((Ext.refl w).alloc _)
 go_wp2_with fail
 generalize hwz:w.alloc (.cells #[.pointer (some ⟨g,k*89,none⟩),.pointer (some ⟨X,0,none⟩),.int .i64 k] 112)=wz at *
 clear hwz
 obtain⟨b0,hb00⟩:∃b,w.heap.size=b:=⟨_,rfl⟩
 rw[hb00]at HZ0 HPz hbg hbX ⊢
 clear hb00 hB17 HC17 c17
 have hb0:=HZ0.out
 have c0:wz.cell? ⟨b0,0,none⟩=some (.pointer (some ⟨g,k*89,none⟩)):=(cell_of_row _ _ _ _ _ _ HPz.out).trans rfl
 have c1:wz.cell? ⟨b0,1,none⟩=some (.pointer (some ⟨X,0,none⟩)):=(cell_of_row _ _ _ _ _ _ HPz.out).trans rfl
 have c2:wz.cell? ⟨b0,2,none⟩=some (.int .i64 k):=(cell_of_row _ _ _ _ _ _ HPz.out).trans rfl
 have hgz:g<wz.heap.size:=HBz.out.lt.2.1
 have hXz:X<wz.heap.size:=HBz.out.lt.1
 have HC0:=hD c0
 have HC1:=hD c1
 clear c0 c1 c2
 go_loopw [9] (fun v wr=>∃n:Nat,n≤B.np∧v=.int .i64 n∧BrG wr F X g (B.upd 42 (fun _=>.bool true) n)∧Mut (fun n=>n=g) wz wr) (fun v _=>B.np - (intOf v).toNat)
 case atStart=>exact⟨0,by omega,rfl,HBz.out,Mut.refl _ _⟩
 case round =>
  obtain⟨n,hn2,rfl,hB,hm⟩:=hrel
  have c0:=(hm.cell (p:=⟨b0,0,none⟩) hb0 hbg).trans HC0.out
  have c1:=(hm.cell (p:=⟨b0,1,none⟩) hb0 hbg).trans HC1.out
  have HB:=hD hB
  have HM:=hD hm
  clear hB hm
  have okn:Br.ok (B.upd 42 (fun _=>.bool true) n):=oY ho (by decide) (fun i c hc=>by cases hc;exact⟨_,rfl⟩) n hn2
  have hnp:Br.np (B.upd 42 (fun _=>.bool true) n)=B.np:=gS _ _ _ _
  obtain⟨cap2,c17,hc3,hc4⟩:=HB.out.cell17 okn
  rw[hnp]at c17 hc3
  by_cases hlt:n<B.np
  ·have hkn:n<Br.np (B.upd 42 (fun _=>.bool true) n):=by rw[hnp];exact hlt
   have p42:=(HB.out.cellg (i:=n*89+42) (bZ hkn (by decide))).trans (okn.gb hkn 42 rfl)
   have hfr:=HB.out.frozen
   clear hc3 hc4 hc1 hc2
   go_wp2_with fail
   go_roundw
   case rel=>exact⟨n+1,by omega,by go_num,HB.out.setp (k:=n) (j:=42) hkn (by decide) _,HM.out.setCell (.inl rfl) _⟩
   case measure=>simp[intOf];omega
  ·obtain rfl:n=B.np:=by omega
   go_wp2_with fail
   go_end0
   exact⟨rfl,HB.out,HMz.out.trans HM.out⟩
theorem aGW{B:Br}(ho:B.ok)(k:Nat):(Lit.int .i64 (cD B k)).wf=true:=by
 unfold cD
 split
 ·exact ho.hw 4 rfl
 ·exact ho.hw 5 rfl
theorem aLB{B:Br}(ho:B.ok)(k:Nat):(Lit.int .i64 (sQ B k)).wf=true:=by
 unfold sQ
 split
 ·exact ho.hw 3 rfl
 ·decide
theorem k7{B:Br}(ho:B.ok){k:Nat}(hk:k<B.np){fd:Int}(hf:(Lit.int .i64 fd).wf=true):(eG B k fd).ok :=
 ((((ho.setI hk 7 .i64 fd rfl hf).setI (k:=k) hk 12 .i64 0 rfl (by decide)).setB (k:=k) hk 47 true rfl).setB (k:=k) hk 46 false rfl).setB (k:=k) hk 42 false rfl
theorem n9{B:Br}(ho:B.ok)(j:Nat)(hj:j<89)(hj2:PL[j]?=some none)(n:Nat)(hn:n≤B.np):(B.upd j (fun _=>.bool true) n).ok:=oY ho hj (fun i c hc=>by rw[hj2]at hc;cases hc;exact⟨_,rfl⟩) n hn
theorem zN{B:Br}(ho:B.ok){k:Nat}(hk:k<B.np)(h4:0≤B.hi 4∧B.hi 4≤1000){r:Nat}(hr:r<24):(dY B k r).ok∧(dY B k r).np=B.np:=by
 have w88:=ho.gw hk 88 rfl
 have w5:=ho.hw 5 rfl
 have w3:=ho.hw 3 rfl
 have ww:=aGW ho k
 have we:=aLB ho k
 have stop:(kT B k).ok:=((ho.setB hk 28 false rfl).setB (k:=k) hk 26 false rfl).setI (k:=k) hk 87 .i64 _ rfl w88
 have agree:(gF B k).ok:=((ho.setB hk 33 false rfl).setB (k:=k) hk 22 true rfl).setB (k:=k) hk 31 true rfl
 have learn:(iN B k).ok:=(ho.setB hk 28 true rfl).setI (k:=k) hk 7 .i64 _ rfl ww
 have fwd:(jV B k).ok:=(ho.setB hk 26 true rfl).setI (k:=k) hk 7 .i64 0 rfl (by decide)
 have oO:(jU B k).ok:=(n9 ho 46 (by decide) rfl B.np (Nat.le_refl _)).setB (k:=k) (by rw[gS];exact hk) 33 false rfl
 have re:(oL B).ok:=n9 ho 42 (by decide) rfl B.np (Nat.le_refl _)
 have w24:(Lit.int .i64 (2*B.hi 4)).wf=true:=by simp[Lit.wf,IntKind.min,IntKind.max,IntKind.signed,IntKind.bits];omega
 rcases(by omega:r=0∨r=1∨r=2∨r=3∨r=4∨r=5∨r=6∨r=7∨r=8∨r=9∨r=10∨r=11∨r=12∨r=13∨r=14∨r=15∨r=16∨r=17∨r=18∨r=19∨r=20∨r=21∨r=22∨r=23)with rfl|rfl|rfl|rfl|rfl|rfl|rfl|rfl|rfl|rfl|rfl|rfl|rfl|rfl|rfl|rfl|rfl|rfl|rfl|rfl|rfl|rfl|rfl|rfl
 ·exact⟨stop,rfl⟩
 ·exact⟨(ho.setI hk 87 .i64 _ rfl w88).setI (k:=k) hk 12 .i64 _ rfl w5,rfl⟩
 ·exact⟨ho.setI hk 87 .i64 _ rfl w88,rfl⟩
 ·exact⟨stop,rfl⟩
 ·exact⟨k7 ho hk w3,rfl⟩
 ·exact⟨k7 ho hk w3,rfl⟩
 ·exact⟨k7 ho hk ww,rfl⟩
 ·exact⟨oO,gS _ _ _ _⟩
 ·exact⟨agree,rfl⟩
 ·exact⟨ho.setI hk 10 .i64 _ rfl w24,rfl⟩
 ·exact⟨k7 ho hk ww,rfl⟩
 ·exact⟨oO,gS _ _ _ _⟩
 ·exact⟨agree.setB (k:=k) hk 46 false rfl,rfl⟩
 ·exact⟨re,gS _ _ _ _⟩
 ·exact⟨learn,rfl⟩
 ·exact⟨fwd,rfl⟩
 ·exact⟨ho.setB hk 42 false rfl,rfl⟩
 ·exact⟨ho.setI hk 12 .i64 _ rfl w5,rfl⟩
 ·exact⟨((ho.setB hk 34 true rfl).setB (k:=k) hk 31 true rfl).setI (k:=k) hk 6 .i64 _ rfl we,rfl⟩
 ·exact⟨((ho.setI hk 12 .i64 0 rfl (by decide)).setB (k:=k) hk 47 true rfl).setB (k:=k) hk 46 false rfl,rfl⟩
 ·exact⟨ho.setB hk 42 false rfl,rfl⟩
 ·exact⟨(((ho.setB hk 28 false rfl).setB (k:=k) hk 26 false rfl).setB (k:=k) hk 24 false rfl).setI (k:=k) hk 7 .i64 _ rfl ww,rfl⟩
 ·exact⟨learn,rfl⟩
 ·exact⟨fwd.setB (k:=k) hk 23 _ rfl,rfl⟩
theorem aGX(w:World)(F:Nat→Prop)(X g k:Nat)(B:Br)(h:BrG w F X g B)(ho:B.ok)(hk:k<B.np)(hk2:k<1000)(hi:¬(B.gb k 44=true∧B.gb k 50=false)):
    Calls Tryz.prog 41 #[.pointer (some ⟨X,0,none⟩),.int .i64 k] w (aN w F X g (false,B)):=by
 obtain⟨hX,hg,hne⟩:=h.lt
 obtain⟨cap,c17,hc1,hc2⟩:=h.cell17 ho
 have p44:=qb h ho hk 44
 have p50:=qb h ho hk 50
 have H:=hD h
 clear h
 have hpl:=fun W':World=>fY (.pointer (some ⟨g,k*89,none⟩)) (.pointer (some ⟨X,0,none⟩)) k W' ⟨_,rfl⟩ ⟨_,rfl⟩
 cases h44:B.gb k 44
 ·rw[h44]at p44
  clear hi h44
  go_enter Tryz.func41,Tryz.ntmps41
  go_wp2_with fail
  refine xB 0 (fun _ _=>False) (fun _ _=>0) rfl (fun _ _ h=>h.elim) (fun _=>?_)
  go_wp2_with fail
  try rw[Exit.noGoto_ret]
  go_ret
  exact⟨rfl,H.out.alloc _,(Mut.refl F w).alloc _⟩
 ·cases h50:B.gb k 50
  ·exact absurd ⟨h44,h50⟩ hi
  ·rw[h44]at p44
   rw[h50]at p50
   clear hi h44 h50
   go_enter Tryz.func41,Tryz.ntmps41
   go_wp2_with fail
   refine xB 0 (fun _ _=>False) (fun _ _=>0) rfl (fun _ _ h=>h.elim) (fun _=>?_)
   go_wp2_with fail
   try rw[Exit.noGoto_ret]
   go_ret
   exact⟨rfl,H.out.alloc _,(Mut.refl F w).alloc _⟩
theorem xG(w:World)(F:Nat→Prop)(X g k:Nat)(B:Br)(h:BrG w F X g B)(ho:B.ok)(hk:k<B.np)(hn:B.np<1000)(hF:∀n,F n→n<w.heap.size)(h4:0≤B.hi 4∧B.hi 4≤1000):
    Calls Tryz.prog 41 #[.pointer (some ⟨X,0,none⟩),.int .i64 k] w (aN w F X g (oM B k)):=by
 by_cases hg:B.gb k 44=true∧B.gb k 50=false
 ·rw [show oM B k=mO B k (zL B k)from if_pos hg]
  refine aJH w F X g k B h ho hk (by omega) hF (cQ B k) (dY B k) (fun j hj=>zN ho hk h4 hj) ?_ ?_ (zL B k) sR xC zM _ rfl hg.1 hg.2
  ·intro j hj w1 hx
   have hb:=h.ext hx
   rcases(by omega:j=0∨j=1∨j=2∨j=3∨j=4∨j=5∨j=6∨j=7∨j=8∨j=9∨j=10∨j=11∨j=12∨j=13∨j=14∨j=15∨j=16∨j=17∨j=18∨j=19∨j=20∨j=21∨j=22∨j=23)with rfl|rfl|rfl|rfl|rfl|rfl|rfl|rfl|rfl|rfl|rfl|rfl|rfl|rfl|rfl|rfl|rfl|rfl|rfl|rfl|rfl|rfl|rfl|rfl
   ·exact qM w1 F X g k B hb ho hk
   ·exact aBP w1 F X g k B hb ho hk
   ·exact oE w1 F X g k B hb ho hk
   ·exact sO w1 F X g k B hb ho hk
   ·exact pC w1 F X g k B hb ho hk
   ·exact qP w1 F X g k B hb ho hk
   ·exact pC w1 F X g k B hb ho hk
   ·exact uJ w1 F X g k B hb ho hk
   ·exact rC w1 F X g k B hb ho hk
   ·exact xD w1 F X g k B hb ho hk h4
   ·exact sS w1 F X g k B hb ho hk
   ·exact uJ w1 F X g k B hb ho hk
   ·exact rC w1 F X g k B hb ho hk
   ·exact qN w1 F X g k B hb ho hk
   ·exact qQ w1 F X g k B hb ho hk
   ·exact oF w1 F X g k B hb ho hk
   ·exact qO w1 F X g k B hb ho hk
   ·exact nG w1 F X g k B hb ho hk
   ·exact uK w1 F X g k B hb ho hk
   ·exact aEC w1 F X g k B hb ho hk
   ·exact aBQ w1 F X g k B hb ho hk
   ·exact xE w1 F X g k B hb ho hk
   ·exact lF w1 F X g k B hb ho hk
   ·exact kJ w1 F X g k B hb ho hk
  ·intro j hj ht w1 hx
   have hb:=h.ext hx
   have hF1:∀n,F n→n<w1.heap.size:=fun n hn=>nL (hF n hn) hx.size
   rcases(by omega:j=0∨j=1∨j=2∨j=3∨j=4∨j=5∨j=6∨j=7∨j=8∨j=9∨j=10∨j=11∨j=12∨j=13∨j=14∨j=15∨j=16∨j=17∨j=18∨j=19∨j=20∨j=21∨j=22∨j=23)with rfl|rfl|rfl|rfl|rfl|rfl|rfl|rfl|rfl|rfl|rfl|rfl|rfl|rfl|rfl|rfl|rfl|rfl|rfl|rfl|rfl|rfl|rfl|rfl
   ·exact zK w1 F X g k B hb ho hk hF1
   ·exact uL w1 F X g k B hb ho hk hF1 (ho.gw hk 88 rfl)
   ·exact sP w1 F X g k B hb ho hk
   ·exact zK w1 F X g k B hb ho hk hF1
   ·exact(pF w1 F X g k B hb ho hk).mono fun e w2 ⟨he,hB,hm⟩=>⟨he,hB,hm.toF h.F2⟩
   ·exact(pF w1 F X g k B hb ho hk).mono fun e w2 ⟨he,hB,hm⟩=>⟨he,hB,hm.toF h.F2⟩
   ·exact(uN w1 F X g k B hb ho hk).mono fun e w2 ⟨he,hB,hm⟩=>⟨he,hB,hm.toF h.F2⟩
   ·exact(rE w1 F X g k B hb ho hk hn).mono fun e w2 ⟨he,hB,hm⟩=>⟨he,hB,hm.toF h.F2⟩
   ·exact uM w1 F X g k B hb ho hk
   ·exact(aBT w1 F X g k B hb ho hk h4).mono fun e w2 ⟨he,hB,hm⟩=>⟨he,hB,hm.toF h.F2⟩
   ·exact(uN w1 F X g k B hb ho hk).mono fun e w2 ⟨he,hB,hm⟩=>⟨he,hB,hm.toF h.F2⟩
   ·exact(rE w1 F X g k B hb ho hk hn).mono fun e w2 ⟨he,hB,hm⟩=>⟨he,hB,hm.toF h.F2⟩
   ·exact pG w1 F X g k B hb ho hk hF1
   ·exact(sT w1 F X g k B hb ho hk hn).mono fun e w2 ⟨he,hB,hm⟩=>⟨he,hB,hm.toF h.F2⟩
   ·exact(uO w1 F X g k B hb ho hk).mono fun e w2 ⟨he,hB,hm⟩=>⟨he,hB,hm.toF h.F2⟩
   ·exact pD w1 F X g k B hb ho hk
   ·exact n7 w1 F X g k B hb ho hk
   ·exact kG w1 F X g k B hb ho hk
   ·exact(xF w1 F X g k B hb ho hk).mono fun e w2 ⟨he,hB,hm⟩=>⟨he,hB,hm.toF h.F2⟩
   ·exact(aGV w1 F X g k B hb ho hk).mono fun e w2 ⟨he,hB,hm⟩=>⟨he,hB,hm.toF h.F2⟩
   ·exact n7 w1 F X g k B hb ho hk
   ·exact(aBU w1 F X g k B hb ho hk).mono fun e w2 ⟨he,hB,hm⟩=>⟨he,hB,hm.toF h.F2⟩
   ·exact(uO w1 F X g k B hb ho hk).mono fun e w2 ⟨he,hB,hm⟩=>⟨he,hB,hm.toF h.F2⟩
   ·exact kU w1 F X g k B hb ho hk hF1
 ·rw[show oM B k=(false,B)from if_neg hg]
  exact aGX w F X g k B h ho hk (by omega) hg
end Go.Proofs.YtpanapepcbbagaaGreat
