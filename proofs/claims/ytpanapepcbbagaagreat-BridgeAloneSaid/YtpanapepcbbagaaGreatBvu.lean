/- Part 21 of what BridgeRests stands on. No statement is proved here. -/
import Derived.ArgAppend
import Derived.Test.YtpanapepcbbagaaGreatBvs
import Derived.Test.YtpanapepcbbagaaGreatBvt
set_option linter.unusedVariables false
set_option linter.unusedSimpArgs false
set_option maxRecDepth 100000
set_option maxHeartbeats 8000000
namespace Go.Proofs.YtpanapepcbbagaaGreat
open Go.RowKit Go.BigFrame Go.WideShapes Go.ChangeShapes Go.Deep
theorem xP(w:World)(F:Nat→Prop)(X g k:Nat)(B:Br)(h:BrG w F X g B)(ho:B.ok)(hk:k<B.np)(hn:B.np<1000)(hT:TR (B.hi 2) (B.hi 3) (B.hi 4) (B.hi 5))(hF:∀n,F n→n<w.heap.size)(h25:B.gb k 25=false)(hs:B.gi k 21=0)(hl:B.gb k 28=true):Calls Tryz.prog 43 #[.pointer (some ⟨X,0,none⟩),.int .i64 k] w (aN w F X g (true,dR B k)):=by
 obtain⟨hX,hg,hne⟩:=h.lt
 obtain⟨cap,c17,hc1,hc2⟩:=h.cell17 ho
 have p25:=qb h ho hk 25
 rw[h25]at p25
 have HTR:=hD (b9 h ho)
 have H:=hD h
 have HF:=hD hF
 have HT:=hD hT
 have H_hs:=hD hs
 clear hs
 have H_hl:=hD hl
 clear hl
 have hk8:k<1000:=by omega
 clear h hF hT h25
 go_enter Tryz.func43,Tryz.ntmps43
 go_wp2_with fail
 refine aT (S:=fun W'=>Ext w W') (by kernel_rfl) ?_
 intro wd hrf
 refine aH 0 g (k*89) rfl hrf ?_
 refine aH 1 X 0 rfl hrf ?_
 refine aH 2 X 0 rfl hrf ?_
 refine aH 3 X 2 rfl hrf ?_
 refine tL 4 (_) rfl (yieldsIf_load_mid rfl 24 _ rfl X (2) rfl ([.int .i64 (B.hi 2),.int .i64 (B.hi 3),.int .i64 (B.hi 4),.int .i64 (B.hi 5)]) _ (fun W' hW'=>aQ HTR.out hW' hX) Tryz.underlying24 rfl bN) hrf ?_
 refine aH 5 X 0 rfl hrf ?_
 refine bO 6 ((.int .i64 (k:Int))) rfl hrf ?_
 refine bB (i:=7) rfl rfl (by kernel_rfl) (fun K hK=>?_)
 go_simp
 refine(cG _ X k).mono ?_
 rintro e y1 ⟨b1,b2,rfl,hy1,hb1,hb2,d1,d2⟩
 have hr1:=hrf.trans hy1
 have hsz:=hrf.size
 have f1:¬F b1:=fun hh=>by have:=HF.out _ hh;omega
 have f2:¬F b2:=fun hh=>by have:=HF.out _ hh;omega
 have D1:=hD d1
 have D2:=hD d2
 clear d1 d2 hy1 hrf hsz hb1 hb2
 refine hK.out _ _ hr1 (fun hHeld=>?_)
 try simp only[ps]
 clear hK K
 have hmb:=fun W':World=>cY (.pointer (some ⟨g,k*89,none⟩)) (.func (.func 128) #[] #[.pointer (some ⟨b1,0,none⟩),.pointer (some ⟨b2,0,none⟩)]) (B.hi 2) (B.hi 3) (B.hi 4) (B.hi 5) W' ⟨_,rfl⟩ ⟨_,_,_,rfl⟩
 refine tL 8 ((.agg #[.pointer (some ⟨g,k*89,none⟩),.int .i64 (B.hi 2),.int .i64 (B.hi 3),.int .i64 (B.hi 4),.int .i64 (B.hi 5),.func (.func 128) #[] #[.pointer (some ⟨b1,0,none⟩),.pointer (some ⟨b2,0,none⟩)]])) rfl (Or.inl ⟨rfl,fun W' _=>by go_simp⟩) hr1 ?_
 clear hmb
 refine bB (i:=9) rfl rfl (by kernel_rfl) (fun K hK=>?_)
 go_simp
 refine(qG (v':=(.func (.func 129) #[.agg #[.pointer (some ⟨g,k*89,none⟩),.int .i64 (B.hi 2),.int .i64 (B.hi 3),.int .i64 (B.hi 4),.int .i64 (B.hi 5),.func (.func 128) #[] #[.pointer (some ⟨b1,0,none⟩),.pointer (some ⟨b2,0,none⟩)]]] #[])) (aB0 y1 F X g k B (H.out.ext hr1) ho hk b1 b2 H_hs.out H_hl.out) rfl).mono ?_
 rintro e y2 ⟨rfl,hy2⟩
 have hr2:=hr1.trans hy2
 have c1:=(hy2.cell (p:=⟨b1,0,none⟩) (World.block_lt_of_cell? _ _ D1.out)).trans D1.out
 have c2:=(hy2.cell (p:=⟨b2,0,none⟩) (World.block_lt_of_cell? _ _ D2.out)).trans D2.out
 have C1:=hD c1
 have C2:=hD c2
 clear c1 c2 hy2 D1 D2
 refine hK.out _ _ hr2 (fun hHeld=>?_)
 try simp only[ps]
 clear hK K
 refine bO 10 ((.func (.func 129) #[.agg #[.pointer (some ⟨g,k*89,none⟩),.int .i64 (B.hi 2),.int .i64 (B.hi 3),.int .i64 (B.hi 4),.int .i64 (B.hi 5),.func (.func 128) #[] #[.pointer (some ⟨b1,0,none⟩),.pointer (some ⟨b2,0,none⟩)]]] #[])) rfl hr2 ?_
 refine wpAnyH_done (by kernel_rfl) ?_ _
 have HR:=hD hr2
 clear hr1 hr2 c17 p25
 have q0:=cZ
 have q1:=gH 129
 go_wp2_with fail
 refine(lS y2 F X g k B (H.out.ext HR.out) ho hk hn HT.out (fun n hn'=>nL (HF.out n hn') HR.out.size) b1 b2).mono ?_
 rintro e y3 ⟨rfl,hB,hm⟩
 have HB:=hD hB
 have HQ:=hD ((HR.out.mut F).trans hm)
 clear hB hm
 go_wp2_with fail
 go_ret
 exact⟨rfl,HB.out,HQ.out⟩
theorem xQ(w:World)(F:Nat→Prop)(X g k:Nat)(B:Br)(h:BrG w F X g B)(ho:B.ok)(hk:k<B.np)(hn:B.np<1000)(hT:TR (B.hi 2) (B.hi 3) (B.hi 4) (B.hi 5))(hF:∀n,F n→n<w.heap.size)(h25:B.gb k 25=false)(hs:B.gi k 21=0)(hl:B.gb k 28=false):Calls Tryz.prog 43 #[.pointer (some ⟨X,0,none⟩),.int .i64 k] w (aN w F X g (false,B)):=by
 obtain⟨hX,hg,hne⟩:=h.lt
 obtain⟨cap,c17,hc1,hc2⟩:=h.cell17 ho
 have p25:=qb h ho hk 25
 rw[h25]at p25
 have HTR:=hD (b9 h ho)
 have H:=hD h
 have HF:=hD hF
 have HT:=hD hT
 have H_hs:=hD hs
 clear hs
 have H_hl:=hD hl
 clear hl
 have hk8:k<1000:=by omega
 clear h hF hT h25
 go_enter Tryz.func43,Tryz.ntmps43
 go_wp2_with fail
 refine aT (S:=fun W'=>Ext w W') (by kernel_rfl) ?_
 intro wd hrf
 refine aH 0 g (k*89) rfl hrf ?_
 refine aH 1 X 0 rfl hrf ?_
 refine aH 2 X 0 rfl hrf ?_
 refine aH 3 X 2 rfl hrf ?_
 refine tL 4 (_) rfl (yieldsIf_load_mid rfl 24 _ rfl X (2) rfl ([.int .i64 (B.hi 2),.int .i64 (B.hi 3),.int .i64 (B.hi 4),.int .i64 (B.hi 5)]) _ (fun W' hW'=>aQ HTR.out hW' hX) Tryz.underlying24 rfl bN) hrf ?_
 refine aH 5 X 0 rfl hrf ?_
 refine bO 6 ((.int .i64 (k:Int))) rfl hrf ?_
 refine bB (i:=7) rfl rfl (by kernel_rfl) (fun K hK=>?_)
 go_simp
 refine(cG _ X k).mono ?_
 rintro e y1 ⟨b1,b2,rfl,hy1,hb1,hb2,d1,d2⟩
 have hr1:=hrf.trans hy1
 have hsz:=hrf.size
 have f1:¬F b1:=fun hh=>by have:=HF.out _ hh;omega
 have f2:¬F b2:=fun hh=>by have:=HF.out _ hh;omega
 have D1:=hD d1
 have D2:=hD d2
 clear d1 d2 hy1 hrf hsz hb1 hb2
 refine hK.out _ _ hr1 (fun hHeld=>?_)
 try simp only[ps]
 clear hK K
 have hmb:=fun W':World=>cY (.pointer (some ⟨g,k*89,none⟩)) (.func (.func 128) #[] #[.pointer (some ⟨b1,0,none⟩),.pointer (some ⟨b2,0,none⟩)]) (B.hi 2) (B.hi 3) (B.hi 4) (B.hi 5) W' ⟨_,rfl⟩ ⟨_,_,_,rfl⟩
 refine tL 8 ((.agg #[.pointer (some ⟨g,k*89,none⟩),.int .i64 (B.hi 2),.int .i64 (B.hi 3),.int .i64 (B.hi 4),.int .i64 (B.hi 5),.func (.func 128) #[] #[.pointer (some ⟨b1,0,none⟩),.pointer (some ⟨b2,0,none⟩)]])) rfl (Or.inl ⟨rfl,fun W' _=>by go_simp⟩) hr1 ?_
 clear hmb
 refine bB (i:=9) rfl rfl (by kernel_rfl) (fun K hK=>?_)
 go_simp
 refine(qG (v':=Value.nilFunc) (aB1 y1 F X g k B (H.out.ext hr1) ho hk b1 b2 H_hs.out H_hl.out) rfl).mono ?_
 rintro e y2 ⟨rfl,hy2⟩
 have hr2:=hr1.trans hy2
 have c1:=(hy2.cell (p:=⟨b1,0,none⟩) (World.block_lt_of_cell? _ _ D1.out)).trans D1.out
 have c2:=(hy2.cell (p:=⟨b2,0,none⟩) (World.block_lt_of_cell? _ _ D2.out)).trans D2.out
 have C1:=hD c1
 have C2:=hD c2
 clear c1 c2 hy2 D1 D2
 refine hK.out _ _ hr2 (fun hHeld=>?_)
 try simp only[ps]
 clear hK K
 refine bO 10 (Value.nilFunc) rfl hr2 ?_
 refine wpAnyH_done (by kernel_rfl) ?_ _
 have HR:=hD hr2
 clear hr1 hr2 c17 p25
 have q0:=cZ
 go_wp2_with fail
 go_ret
 exact⟨rfl,H.out.ext HR.out,HR.out.mut F⟩
theorem aB2(w:World)(F:Nat→Prop)(X g k:Nat)(B:Br)(h:BrG w F X g B)(ho:B.ok)(hk:k<B.np)(hn:B.np<1000)(hT:TR (B.hi 2) (B.hi 3) (B.hi 4) (B.hi 5))(hF:∀n,F n→n<w.heap.size)(h25:B.gb k 25=false)(h0:B.gi k 21≠0)(h1:B.gi k 21≠1)(h2:B.gi k 21≠2):Calls Tryz.prog 43 #[.pointer (some ⟨X,0,none⟩),.int .i64 k] w (aN w F X g (false,B)):=by
 obtain⟨hX,hg,hne⟩:=h.lt
 obtain⟨cap,c17,hc1,hc2⟩:=h.cell17 ho
 have p25:=qb h ho hk 25
 rw[h25]at p25
 have HTR:=hD (b9 h ho)
 have H:=hD h
 have HF:=hD hF
 have HT:=hD hT
 have H_h0:=hD h0
 clear h0
 have H_h1:=hD h1
 clear h1
 have H_h2:=hD h2
 clear h2
 have hk8:k<1000:=by omega
 clear h hF hT h25
 go_enter Tryz.func43,Tryz.ntmps43
 go_wp2_with fail
 refine aT (S:=fun W'=>Ext w W') (by kernel_rfl) ?_
 intro wd hrf
 refine aH 0 g (k*89) rfl hrf ?_
 refine aH 1 X 0 rfl hrf ?_
 refine aH 2 X 0 rfl hrf ?_
 refine aH 3 X 2 rfl hrf ?_
 refine tL 4 (_) rfl (yieldsIf_load_mid rfl 24 _ rfl X (2) rfl ([.int .i64 (B.hi 2),.int .i64 (B.hi 3),.int .i64 (B.hi 4),.int .i64 (B.hi 5)]) _ (fun W' hW'=>aQ HTR.out hW' hX) Tryz.underlying24 rfl bN) hrf ?_
 refine aH 5 X 0 rfl hrf ?_
 refine bO 6 ((.int .i64 (k:Int))) rfl hrf ?_
 refine bB (i:=7) rfl rfl (by kernel_rfl) (fun K hK=>?_)
 go_simp
 refine(cG _ X k).mono ?_
 rintro e y1 ⟨b1,b2,rfl,hy1,hb1,hb2,d1,d2⟩
 have hr1:=hrf.trans hy1
 have hsz:=hrf.size
 have f1:¬F b1:=fun hh=>by have:=HF.out _ hh;omega
 have f2:¬F b2:=fun hh=>by have:=HF.out _ hh;omega
 have D1:=hD d1
 have D2:=hD d2
 clear d1 d2 hy1 hrf hsz hb1 hb2
 refine hK.out _ _ hr1 (fun hHeld=>?_)
 try simp only[ps]
 clear hK K
 have hmb:=fun W':World=>cY (.pointer (some ⟨g,k*89,none⟩)) (.func (.func 128) #[] #[.pointer (some ⟨b1,0,none⟩),.pointer (some ⟨b2,0,none⟩)]) (B.hi 2) (B.hi 3) (B.hi 4) (B.hi 5) W' ⟨_,rfl⟩ ⟨_,_,_,rfl⟩
 refine tL 8 ((.agg #[.pointer (some ⟨g,k*89,none⟩),.int .i64 (B.hi 2),.int .i64 (B.hi 3),.int .i64 (B.hi 4),.int .i64 (B.hi 5),.func (.func 128) #[] #[.pointer (some ⟨b1,0,none⟩),.pointer (some ⟨b2,0,none⟩)]])) rfl (Or.inl ⟨rfl,fun W' _=>by go_simp⟩) hr1 ?_
 clear hmb
 refine bB (i:=9) rfl rfl (by kernel_rfl) (fun K hK=>?_)
 go_simp
 refine(qG (v':=Value.nilFunc) (aEH y1 F X g k B (H.out.ext hr1) ho hk b1 b2 H_h0.out H_h1.out H_h2.out) rfl).mono ?_
 rintro e y2 ⟨rfl,hy2⟩
 have hr2:=hr1.trans hy2
 have c1:=(hy2.cell (p:=⟨b1,0,none⟩) (World.block_lt_of_cell? _ _ D1.out)).trans D1.out
 have c2:=(hy2.cell (p:=⟨b2,0,none⟩) (World.block_lt_of_cell? _ _ D2.out)).trans D2.out
 have C1:=hD c1
 have C2:=hD c2
 clear c1 c2 hy2 D1 D2
 refine hK.out _ _ hr2 (fun hHeld=>?_)
 try simp only[ps]
 clear hK K
 refine bO 10 (Value.nilFunc) rfl hr2 ?_
 refine wpAnyH_done (by kernel_rfl) ?_ _
 have HR:=hD hr2
 clear hr1 hr2 c17 p25
 have q0:=cZ
 go_wp2_with fail
 go_ret
 exact⟨rfl,H.out.ext HR.out,HR.out.mut F⟩
theorem uY(w:World)(F:Nat→Prop)(X g k:Nat)(B:Br)(h:BrG w F X g B)(ho:B.ok)(hk:k<B.np)(hn:B.np<1000)(hT:TR (B.hi 2) (B.hi 3) (B.hi 4) (B.hi 5))(hF:∀n,F n→n<w.heap.size)(h25:B.gb k 25=false)(hs:B.gi k 21=1)(ha:lG B k=0):Calls Tryz.prog 43 #[.pointer (some ⟨X,0,none⟩),.int .i64 k] w (aN w F X g (false,B)):=by
 obtain⟨hX,hg,hne⟩:=h.lt
 obtain⟨cap,c17,hc1,hc2⟩:=h.cell17 ho
 have p25:=qb h ho hk 25
 rw[h25]at p25
 have HTR:=hD (b9 h ho)
 have H:=hD h
 have HF:=hD hF
 have HT:=hD hT
 have H_hs:=hD hs
 clear hs
 have H_ha:=hD ha
 clear ha
 have hk8:k<1000:=by omega
 clear h hF hT h25
 go_enter Tryz.func43,Tryz.ntmps43
 go_wp2_with fail
 refine aT (S:=fun W'=>Ext w W') (by kernel_rfl) ?_
 intro wd hrf
 refine aH 0 g (k*89) rfl hrf ?_
 refine aH 1 X 0 rfl hrf ?_
 refine aH 2 X 0 rfl hrf ?_
 refine aH 3 X 2 rfl hrf ?_
 refine tL 4 (_) rfl (yieldsIf_load_mid rfl 24 _ rfl X (2) rfl ([.int .i64 (B.hi 2),.int .i64 (B.hi 3),.int .i64 (B.hi 4),.int .i64 (B.hi 5)]) _ (fun W' hW'=>aQ HTR.out hW' hX) Tryz.underlying24 rfl bN) hrf ?_
 refine aH 5 X 0 rfl hrf ?_
 refine bO 6 ((.int .i64 (k:Int))) rfl hrf ?_
 refine bB (i:=7) rfl rfl (by kernel_rfl) (fun K hK=>?_)
 go_simp
 refine(cG _ X k).mono ?_
 rintro e y1 ⟨b1,b2,rfl,hy1,hb1,hb2,d1,d2⟩
 have hr1:=hrf.trans hy1
 have hsz:=hrf.size
 have f1:¬F b1:=fun hh=>by have:=HF.out _ hh;omega
 have f2:¬F b2:=fun hh=>by have:=HF.out _ hh;omega
 have D1:=hD d1
 have D2:=hD d2
 clear d1 d2 hy1 hrf hsz hb1 hb2
 refine hK.out _ _ hr1 (fun hHeld=>?_)
 try simp only[ps]
 clear hK K
 have hmb:=fun W':World=>cY (.pointer (some ⟨g,k*89,none⟩)) (.func (.func 128) #[] #[.pointer (some ⟨b1,0,none⟩),.pointer (some ⟨b2,0,none⟩)]) (B.hi 2) (B.hi 3) (B.hi 4) (B.hi 5) W' ⟨_,rfl⟩ ⟨_,_,_,rfl⟩
 refine tL 8 ((.agg #[.pointer (some ⟨g,k*89,none⟩),.int .i64 (B.hi 2),.int .i64 (B.hi 3),.int .i64 (B.hi 4),.int .i64 (B.hi 5),.func (.func 128) #[] #[.pointer (some ⟨b1,0,none⟩),.pointer (some ⟨b2,0,none⟩)]])) rfl (Or.inl ⟨rfl,fun W' _=>by go_simp⟩) hr1 ?_
 clear hmb
 refine bB (i:=9) rfl rfl (by kernel_rfl) (fun K hK=>?_)
 go_simp
 refine(qG (v':=Value.nilFunc) (mR y1 F X g k B (H.out.ext hr1) ho hk b1 b2 H_hs.out) (by rw[H_ha.out];rfl)).mono ?_
 rintro e y2 ⟨rfl,hy2⟩
 have hr2:=hr1.trans hy2
 have c1:=(hy2.cell (p:=⟨b1,0,none⟩) (World.block_lt_of_cell? _ _ D1.out)).trans D1.out
 have c2:=(hy2.cell (p:=⟨b2,0,none⟩) (World.block_lt_of_cell? _ _ D2.out)).trans D2.out
 have C1:=hD c1
 have C2:=hD c2
 clear c1 c2 hy2 D1 D2
 refine hK.out _ _ hr2 (fun hHeld=>?_)
 try simp only[ps]
 clear hK K
 refine bO 10 (Value.nilFunc) rfl hr2 ?_
 refine wpAnyH_done (by kernel_rfl) ?_ _
 have HR:=hD hr2
 clear hr1 hr2 c17 p25
 have q0:=cZ
 go_wp2_with fail
 go_ret
 exact⟨rfl,H.out.ext HR.out,HR.out.mut F⟩
theorem uZ(w:World)(F:Nat→Prop)(X g k:Nat)(B:Br)(h:BrG w F X g B)(ho:B.ok)(hk:k<B.np)(hn:B.np<1000)(hT:TR (B.hi 2) (B.hi 3) (B.hi 4) (B.hi 5))(hF:∀n,F n→n<w.heap.size)(h25:B.gb k 25=false)(hs:B.gi k 21=1)(ha:lG B k=1):Calls Tryz.prog 43 #[.pointer (some ⟨X,0,none⟩),.int .i64 k] w (aN w F X g (true,fT B k)):=by
 obtain⟨hX,hg,hne⟩:=h.lt
 obtain⟨cap,c17,hc1,hc2⟩:=h.cell17 ho
 have p25:=qb h ho hk 25
 rw[h25]at p25
 have HTR:=hD (b9 h ho)
 have H:=hD h
 have HF:=hD hF
 have HT:=hD hT
 have H_hs:=hD hs
 clear hs
 have H_ha:=hD ha
 clear ha
 have hk8:k<1000:=by omega
 clear h hF hT h25
 go_enter Tryz.func43,Tryz.ntmps43
 go_wp2_with fail
 refine aT (S:=fun W'=>Ext w W') (by kernel_rfl) ?_
 intro wd hrf
 refine aH 0 g (k*89) rfl hrf ?_
 refine aH 1 X 0 rfl hrf ?_
 refine aH 2 X 0 rfl hrf ?_
 refine aH 3 X 2 rfl hrf ?_
 refine tL 4 (_) rfl (yieldsIf_load_mid rfl 24 _ rfl X (2) rfl ([.int .i64 (B.hi 2),.int .i64 (B.hi 3),.int .i64 (B.hi 4),.int .i64 (B.hi 5)]) _ (fun W' hW'=>aQ HTR.out hW' hX) Tryz.underlying24 rfl bN) hrf ?_
 refine aH 5 X 0 rfl hrf ?_
 refine bO 6 ((.int .i64 (k:Int))) rfl hrf ?_
 refine bB (i:=7) rfl rfl (by kernel_rfl) (fun K hK=>?_)
 go_simp
 refine(cG _ X k).mono ?_
 rintro e y1 ⟨b1,b2,rfl,hy1,hb1,hb2,d1,d2⟩
 have hr1:=hrf.trans hy1
 have hsz:=hrf.size
 have f1:¬F b1:=fun hh=>by have:=HF.out _ hh;omega
 have f2:¬F b2:=fun hh=>by have:=HF.out _ hh;omega
 have D1:=hD d1
 have D2:=hD d2
 clear d1 d2 hy1 hrf hsz hb1 hb2
 refine hK.out _ _ hr1 (fun hHeld=>?_)
 try simp only[ps]
 clear hK K
 have hmb:=fun W':World=>cY (.pointer (some ⟨g,k*89,none⟩)) (.func (.func 128) #[] #[.pointer (some ⟨b1,0,none⟩),.pointer (some ⟨b2,0,none⟩)]) (B.hi 2) (B.hi 3) (B.hi 4) (B.hi 5) W' ⟨_,rfl⟩ ⟨_,_,_,rfl⟩
 refine tL 8 ((.agg #[.pointer (some ⟨g,k*89,none⟩),.int .i64 (B.hi 2),.int .i64 (B.hi 3),.int .i64 (B.hi 4),.int .i64 (B.hi 5),.func (.func 128) #[] #[.pointer (some ⟨b1,0,none⟩),.pointer (some ⟨b2,0,none⟩)]])) rfl (Or.inl ⟨rfl,fun W' _=>by go_simp⟩) hr1 ?_
 clear hmb
 refine bB (i:=9) rfl rfl (by kernel_rfl) (fun K hK=>?_)
 go_simp
 refine(qG (v':=(.func (.func 155) #[.agg #[.pointer (some ⟨g,k*89,none⟩),.int .i64 (B.hi 2),.int .i64 (B.hi 3),.int .i64 (B.hi 4),.int .i64 (B.hi 5),.func (.func 128) #[] #[.pointer (some ⟨b1,0,none⟩),.pointer (some ⟨b2,0,none⟩)]]] #[])) (mR y1 F X g k B (H.out.ext hr1) ho hk b1 b2 H_hs.out) (by rw[H_ha.out];rfl)).mono ?_
 rintro e y2 ⟨rfl,hy2⟩
 have hr2:=hr1.trans hy2
 have c1:=(hy2.cell (p:=⟨b1,0,none⟩) (World.block_lt_of_cell? _ _ D1.out)).trans D1.out
 have c2:=(hy2.cell (p:=⟨b2,0,none⟩) (World.block_lt_of_cell? _ _ D2.out)).trans D2.out
 have C1:=hD c1
 have C2:=hD c2
 clear c1 c2 hy2 D1 D2
 refine hK.out _ _ hr2 (fun hHeld=>?_)
 try simp only[ps]
 clear hK K
 refine bO 10 ((.func (.func 155) #[.agg #[.pointer (some ⟨g,k*89,none⟩),.int .i64 (B.hi 2),.int .i64 (B.hi 3),.int .i64 (B.hi 4),.int .i64 (B.hi 5),.func (.func 128) #[] #[.pointer (some ⟨b1,0,none⟩),.pointer (some ⟨b2,0,none⟩)]]] #[])) rfl hr2 ?_
 refine wpAnyH_done (by kernel_rfl) ?_ _
 have HR:=hD hr2
 clear hr1 hr2 c17 p25
 have q0:=cZ
 have q1:=gH 155
 go_wp2_with fail
 refine(sU y2 F X g k B (H.out.ext HR.out) ho hk hn HT.out (fun n hn'=>nL (HF.out n hn') HR.out.size) b1 b2 C1.out C2.out f1 f2).mono ?_
 rintro e y3 ⟨rfl,hB,hm⟩
 have HB:=hD hB
 have HQ:=hD ((HR.out.mut F).trans hm)
 clear hB hm
 go_wp2_with fail
 go_ret
 exact⟨rfl,HB.out,HQ.out⟩
theorem u5(w:World)(F:Nat→Prop)(X g k:Nat)(B:Br)(h:BrG w F X g B)(ho:B.ok)(hk:k<B.np)(hn:B.np<1000)(hT:TR (B.hi 2) (B.hi 3) (B.hi 4) (B.hi 5))(hF:∀n,F n→n<w.heap.size)(h25:B.gb k 25=false)(hs:B.gi k 21=1)(ha:lG B k=2):Calls Tryz.prog 43 #[.pointer (some ⟨X,0,none⟩),.int .i64 k] w (aN w F X g (true,i5 B k)):=by
 obtain⟨hX,hg,hne⟩:=h.lt
 obtain⟨cap,c17,hc1,hc2⟩:=h.cell17 ho
 have p25:=qb h ho hk 25
 rw[h25]at p25
 have HTR:=hD (b9 h ho)
 have H:=hD h
 have HF:=hD hF
 have HT:=hD hT
 have H_hs:=hD hs
 clear hs
 have H_ha:=hD ha
 clear ha
 have hk8:k<1000:=by omega
 clear h hF hT h25
 go_enter Tryz.func43,Tryz.ntmps43
 go_wp2_with fail
 refine aT (S:=fun W'=>Ext w W') (by kernel_rfl) ?_
 intro wd hrf
 refine aH 0 g (k*89) rfl hrf ?_
 refine aH 1 X 0 rfl hrf ?_
 refine aH 2 X 0 rfl hrf ?_
 refine aH 3 X 2 rfl hrf ?_
 refine tL 4 (_) rfl (yieldsIf_load_mid rfl 24 _ rfl X (2) rfl ([.int .i64 (B.hi 2),.int .i64 (B.hi 3),.int .i64 (B.hi 4),.int .i64 (B.hi 5)]) _ (fun W' hW'=>aQ HTR.out hW' hX) Tryz.underlying24 rfl bN) hrf ?_
 refine aH 5 X 0 rfl hrf ?_
 refine bO 6 ((.int .i64 (k:Int))) rfl hrf ?_
 refine bB (i:=7) rfl rfl (by kernel_rfl) (fun K hK=>?_)
 go_simp
 refine(cG _ X k).mono ?_
 rintro e y1 ⟨b1,b2,rfl,hy1,hb1,hb2,d1,d2⟩
 have hr1:=hrf.trans hy1
 have hsz:=hrf.size
 have f1:¬F b1:=fun hh=>by have:=HF.out _ hh;omega
 have f2:¬F b2:=fun hh=>by have:=HF.out _ hh;omega
 have D1:=hD d1
 have D2:=hD d2
 clear d1 d2 hy1 hrf hsz hb1 hb2
 refine hK.out _ _ hr1 (fun hHeld=>?_)
 try simp only[ps]
 clear hK K
 have hmb:=fun W':World=>cY (.pointer (some ⟨g,k*89,none⟩)) (.func (.func 128) #[] #[.pointer (some ⟨b1,0,none⟩),.pointer (some ⟨b2,0,none⟩)]) (B.hi 2) (B.hi 3) (B.hi 4) (B.hi 5) W' ⟨_,rfl⟩ ⟨_,_,_,rfl⟩
 refine tL 8 ((.agg #[.pointer (some ⟨g,k*89,none⟩),.int .i64 (B.hi 2),.int .i64 (B.hi 3),.int .i64 (B.hi 4),.int .i64 (B.hi 5),.func (.func 128) #[] #[.pointer (some ⟨b1,0,none⟩),.pointer (some ⟨b2,0,none⟩)]])) rfl (Or.inl ⟨rfl,fun W' _=>by go_simp⟩) hr1 ?_
 clear hmb
 refine bB (i:=9) rfl rfl (by kernel_rfl) (fun K hK=>?_)
 go_simp
 refine(qG (v':=(.func (.func 157) #[.agg #[.pointer (some ⟨g,k*89,none⟩),.int .i64 (B.hi 2),.int .i64 (B.hi 3),.int .i64 (B.hi 4),.int .i64 (B.hi 5),.func (.func 128) #[] #[.pointer (some ⟨b1,0,none⟩),.pointer (some ⟨b2,0,none⟩)]]] #[])) (mR y1 F X g k B (H.out.ext hr1) ho hk b1 b2 H_hs.out) (by rw[H_ha.out];rfl)).mono ?_
 rintro e y2 ⟨rfl,hy2⟩
 have hr2:=hr1.trans hy2
 have c1:=(hy2.cell (p:=⟨b1,0,none⟩) (World.block_lt_of_cell? _ _ D1.out)).trans D1.out
 have c2:=(hy2.cell (p:=⟨b2,0,none⟩) (World.block_lt_of_cell? _ _ D2.out)).trans D2.out
 have C1:=hD c1
 have C2:=hD c2
 clear c1 c2 hy2 D1 D2
 refine hK.out _ _ hr2 (fun hHeld=>?_)
 try simp only[ps]
 clear hK K
 refine bO 10 ((.func (.func 157) #[.agg #[.pointer (some ⟨g,k*89,none⟩),.int .i64 (B.hi 2),.int .i64 (B.hi 3),.int .i64 (B.hi 4),.int .i64 (B.hi 5),.func (.func 128) #[] #[.pointer (some ⟨b1,0,none⟩),.pointer (some ⟨b2,0,none⟩)]]] #[])) rfl hr2 ?_
 refine wpAnyH_done (by kernel_rfl) ?_ _
 have HR:=hD hr2
 clear hr1 hr2 c17 p25
 have q0:=cZ
 have q1:=gH 157
 go_wp2_with fail
 refine(aBZ y2 F X g k B (H.out.ext HR.out) ho hk hn HT.out (fun n hn'=>nL (HF.out n hn') HR.out.size) b1 b2).mono ?_
 rintro e y3 ⟨rfl,hB,hm⟩
 have HB:=hD hB
 have HQ:=hD ((HR.out.mut F).trans hm)
 clear hB hm
 go_wp2_with fail
 go_ret
 exact⟨rfl,HB.out,HQ.out⟩
theorem u7(w:World)(F:Nat→Prop)(X g k:Nat)(B:Br)(h:BrG w F X g B)(ho:B.ok)(hk:k<B.np)(hn:B.np<1000)(hT:TR (B.hi 2) (B.hi 3) (B.hi 4) (B.hi 5))(hF:∀n,F n→n<w.heap.size)(h25:B.gb k 25=false)(hs:B.gi k 21=1)(ha:lG B k=3):Calls Tryz.prog 43 #[.pointer (some ⟨X,0,none⟩),.int .i64 k] w (aN w F X g (true,dR B k)):=by
 obtain⟨hX,hg,hne⟩:=h.lt
 obtain⟨cap,c17,hc1,hc2⟩:=h.cell17 ho
 have p25:=qb h ho hk 25
 rw[h25]at p25
 have HTR:=hD (b9 h ho)
 have H:=hD h
 have HF:=hD hF
 have HT:=hD hT
 have H_hs:=hD hs
 clear hs
 have H_ha:=hD ha
 clear ha
 have hk8:k<1000:=by omega
 clear h hF hT h25
 go_enter Tryz.func43,Tryz.ntmps43
 go_wp2_with fail
 refine aT (S:=fun W'=>Ext w W') (by kernel_rfl) ?_
 intro wd hrf
 refine aH 0 g (k*89) rfl hrf ?_
 refine aH 1 X 0 rfl hrf ?_
 refine aH 2 X 0 rfl hrf ?_
 refine aH 3 X 2 rfl hrf ?_
 refine tL 4 (_) rfl (yieldsIf_load_mid rfl 24 _ rfl X (2) rfl ([.int .i64 (B.hi 2),.int .i64 (B.hi 3),.int .i64 (B.hi 4),.int .i64 (B.hi 5)]) _ (fun W' hW'=>aQ HTR.out hW' hX) Tryz.underlying24 rfl bN) hrf ?_
 refine aH 5 X 0 rfl hrf ?_
 refine bO 6 ((.int .i64 (k:Int))) rfl hrf ?_
 refine bB (i:=7) rfl rfl (by kernel_rfl) (fun K hK=>?_)
 go_simp
 refine(cG _ X k).mono ?_
 rintro e y1 ⟨b1,b2,rfl,hy1,hb1,hb2,d1,d2⟩
 have hr1:=hrf.trans hy1
 have hsz:=hrf.size
 have f1:¬F b1:=fun hh=>by have:=HF.out _ hh;omega
 have f2:¬F b2:=fun hh=>by have:=HF.out _ hh;omega
 have D1:=hD d1
 have D2:=hD d2
 clear d1 d2 hy1 hrf hsz hb1 hb2
 refine hK.out _ _ hr1 (fun hHeld=>?_)
 try simp only[ps]
 clear hK K
 have hmb:=fun W':World=>cY (.pointer (some ⟨g,k*89,none⟩)) (.func (.func 128) #[] #[.pointer (some ⟨b1,0,none⟩),.pointer (some ⟨b2,0,none⟩)]) (B.hi 2) (B.hi 3) (B.hi 4) (B.hi 5) W' ⟨_,rfl⟩ ⟨_,_,_,rfl⟩
 refine tL 8 ((.agg #[.pointer (some ⟨g,k*89,none⟩),.int .i64 (B.hi 2),.int .i64 (B.hi 3),.int .i64 (B.hi 4),.int .i64 (B.hi 5),.func (.func 128) #[] #[.pointer (some ⟨b1,0,none⟩),.pointer (some ⟨b2,0,none⟩)]])) rfl (Or.inl ⟨rfl,fun W' _=>by go_simp⟩) hr1 ?_
 clear hmb
 refine bB (i:=9) rfl rfl (by kernel_rfl) (fun K hK=>?_)
 go_simp
 refine(qG (v':=(.func (.func 129) #[.agg #[.pointer (some ⟨g,k*89,none⟩),.int .i64 (B.hi 2),.int .i64 (B.hi 3),.int .i64 (B.hi 4),.int .i64 (B.hi 5),.func (.func 128) #[] #[.pointer (some ⟨b1,0,none⟩),.pointer (some ⟨b2,0,none⟩)]]] #[])) (mR y1 F X g k B (H.out.ext hr1) ho hk b1 b2 H_hs.out) (by rw[H_ha.out];rfl)).mono ?_
 rintro e y2 ⟨rfl,hy2⟩
 have hr2:=hr1.trans hy2
 have c1:=(hy2.cell (p:=⟨b1,0,none⟩) (World.block_lt_of_cell? _ _ D1.out)).trans D1.out
 have c2:=(hy2.cell (p:=⟨b2,0,none⟩) (World.block_lt_of_cell? _ _ D2.out)).trans D2.out
 have C1:=hD c1
 have C2:=hD c2
 clear c1 c2 hy2 D1 D2
 refine hK.out _ _ hr2 (fun hHeld=>?_)
 try simp only[ps]
 clear hK K
 refine bO 10 ((.func (.func 129) #[.agg #[.pointer (some ⟨g,k*89,none⟩),.int .i64 (B.hi 2),.int .i64 (B.hi 3),.int .i64 (B.hi 4),.int .i64 (B.hi 5),.func (.func 128) #[] #[.pointer (some ⟨b1,0,none⟩),.pointer (some ⟨b2,0,none⟩)]]] #[])) rfl hr2 ?_
 refine wpAnyH_done (by kernel_rfl) ?_ _
 have HR:=hD hr2
 clear hr1 hr2 c17 p25
 have q0:=cZ
 have q1:=gH 129
 go_wp2_with fail
 refine(lS y2 F X g k B (H.out.ext HR.out) ho hk hn HT.out (fun n hn'=>nL (HF.out n hn') HR.out.size) b1 b2).mono ?_
 rintro e y3 ⟨rfl,hB,hm⟩
 have HB:=hD hB
 have HQ:=hD ((HR.out.mut F).trans hm)
 clear hB hm
 go_wp2_with fail
 go_ret
 exact⟨rfl,HB.out,HQ.out⟩
theorem u9(w:World)(F:Nat→Prop)(X g k:Nat)(B:Br)(h:BrG w F X g B)(ho:B.ok)(hk:k<B.np)(hn:B.np<1000)(hT:TR (B.hi 2) (B.hi 3) (B.hi 4) (B.hi 5))(hF:∀n,F n→n<w.heap.size)(h25:B.gb k 25=false)(hs:B.gi k 21=2)(ha:jX B k=4):Calls Tryz.prog 43 #[.pointer (some ⟨X,0,none⟩),.int .i64 k] w (aN w F X g (true,gG B k)):=by
 obtain⟨hX,hg,hne⟩:=h.lt
 obtain⟨cap,c17,hc1,hc2⟩:=h.cell17 ho
 have p25:=qb h ho hk 25
 rw[h25]at p25
 have HTR:=hD (b9 h ho)
 have H:=hD h
 have HF:=hD hF
 have HT:=hD hT
 have H_hs:=hD hs
 clear hs
 have H_ha:=hD ha
 clear ha
 have hk8:k<1000:=by omega
 clear h hF hT h25
 go_enter Tryz.func43,Tryz.ntmps43
 go_wp2_with fail
 refine aT (S:=fun W'=>Ext w W') (by kernel_rfl) ?_
 intro wd hrf
 refine aH 0 g (k*89) rfl hrf ?_
 refine aH 1 X 0 rfl hrf ?_
 refine aH 2 X 0 rfl hrf ?_
 refine aH 3 X 2 rfl hrf ?_
 refine tL 4 (_) rfl (yieldsIf_load_mid rfl 24 _ rfl X (2) rfl ([.int .i64 (B.hi 2),.int .i64 (B.hi 3),.int .i64 (B.hi 4),.int .i64 (B.hi 5)]) _ (fun W' hW'=>aQ HTR.out hW' hX) Tryz.underlying24 rfl bN) hrf ?_
 refine aH 5 X 0 rfl hrf ?_
 refine bO 6 ((.int .i64 (k:Int))) rfl hrf ?_
 refine bB (i:=7) rfl rfl (by kernel_rfl) (fun K hK=>?_)
 go_simp
 refine(cG _ X k).mono ?_
 rintro e y1 ⟨b1,b2,rfl,hy1,hb1,hb2,d1,d2⟩
 have hr1:=hrf.trans hy1
 have hsz:=hrf.size
 have f1:¬F b1:=fun hh=>by have:=HF.out _ hh;omega
 have f2:¬F b2:=fun hh=>by have:=HF.out _ hh;omega
 have D1:=hD d1
 have D2:=hD d2
 clear d1 d2 hy1 hrf hsz hb1 hb2
 refine hK.out _ _ hr1 (fun hHeld=>?_)
 try simp only[ps]
 clear hK K
 have hmb:=fun W':World=>cY (.pointer (some ⟨g,k*89,none⟩)) (.func (.func 128) #[] #[.pointer (some ⟨b1,0,none⟩),.pointer (some ⟨b2,0,none⟩)]) (B.hi 2) (B.hi 3) (B.hi 4) (B.hi 5) W' ⟨_,rfl⟩ ⟨_,_,_,rfl⟩
 refine tL 8 ((.agg #[.pointer (some ⟨g,k*89,none⟩),.int .i64 (B.hi 2),.int .i64 (B.hi 3),.int .i64 (B.hi 4),.int .i64 (B.hi 5),.func (.func 128) #[] #[.pointer (some ⟨b1,0,none⟩),.pointer (some ⟨b2,0,none⟩)]])) rfl (Or.inl ⟨rfl,fun W' _=>by go_simp⟩) hr1 ?_
 clear hmb
 refine bB (i:=9) rfl rfl (by kernel_rfl) (fun K hK=>?_)
 go_simp
 refine(qG (v':=(.func (.func 160) #[.agg #[.pointer (some ⟨g,k*89,none⟩),.int .i64 (B.hi 2),.int .i64 (B.hi 3),.int .i64 (B.hi 4),.int .i64 (B.hi 5),.func (.func 128) #[] #[.pointer (some ⟨b1,0,none⟩),.pointer (some ⟨b2,0,none⟩)]]] #[])) (jY y1 F X g k B (H.out.ext hr1) ho hk hn HT.out (fun n hn'=>nL (HF.out n hn') hr1.size) b1 b2 H_hs.out) (by rw[H_ha.out];rfl)).mono ?_
 rintro e y2 ⟨rfl,hy2⟩
 have hr2:=hr1.trans hy2
 have c1:=(hy2.cell (p:=⟨b1,0,none⟩) (World.block_lt_of_cell? _ _ D1.out)).trans D1.out
 have c2:=(hy2.cell (p:=⟨b2,0,none⟩) (World.block_lt_of_cell? _ _ D2.out)).trans D2.out
 have C1:=hD c1
 have C2:=hD c2
 clear c1 c2 hy2 D1 D2
 refine hK.out _ _ hr2 (fun hHeld=>?_)
 try simp only[ps]
 clear hK K
 refine bO 10 ((.func (.func 160) #[.agg #[.pointer (some ⟨g,k*89,none⟩),.int .i64 (B.hi 2),.int .i64 (B.hi 3),.int .i64 (B.hi 4),.int .i64 (B.hi 5),.func (.func 128) #[] #[.pointer (some ⟨b1,0,none⟩),.pointer (some ⟨b2,0,none⟩)]]] #[])) rfl hr2 ?_
 refine wpAnyH_done (by kernel_rfl) ?_ _
 have HR:=hD hr2
 clear hr1 hr2 c17 p25
 have q0:=cZ
 have q1:=gH 160
 go_wp2_with fail
 refine(xO y2 F X g k B (H.out.ext HR.out) ho hk hn HT.out (fun n hn'=>nL (HF.out n hn') HR.out.size) b1 b2).mono ?_
 rintro e y3 ⟨rfl,hB,hm⟩
 have HB:=hD hB
 have HQ:=hD ((HR.out.mut F).trans hm)
 clear hB hm
 go_wp2_with fail
 go_ret
 exact⟨rfl,HB.out,HQ.out⟩
def pJ(B:Br)(k:Nat):Bool × Br :=
 if B.gi k 21=0 then(if B.gb k 28=true then(true,dR B k)else(false,B))else
 if B.gi k 21=1 then(if lG B k=1 then(true,fT B k)else if lG B k=2 then(true,i5 B k)else if lG B k=3 then(true,dR B k)else(false,B))else
 if B.gi k 21=2 then(if jX B k=1 then(true,dR B k)else if jX B k=2 then(true,dM (bF B k) k)else if jX B k=3 then(true,dM B k)else if jX B k=4 then(true,gG B k)else if jX B k=5 then(true,pH B k)else(false,B))else(false,B)
theorem pK(B:Br)(k:Nat):lG B k=0∨lG B k=1∨lG B k=2∨lG B k=3:=by
 unfold lG eH
 split
 ·simp
 ·split
  ·simp
  ·split<;>simp
theorem pM(B:Br)(k:Nat):jX B k=0∨jX B k=1∨jX B k=2∨jX B k=3∨jX B k=4∨jX B k=5:=by
 unfold jX fS
 repeat' split
 all_goals simp
theorem aB3(w:World)(F:Nat→Prop)(X g k:Nat)(B:Br)(h:BrG w F X g B)(ho:B.ok)(hk:k<B.np)(hn:B.np<1000)(hT:TR (B.hi 2) (B.hi 3) (B.hi 4) (B.hi 5))(hF:∀n,F n→n<w.heap.size)(h25:B.gb k 25=false):Calls Tryz.prog 43 #[.pointer (some ⟨X,0,none⟩),.int .i64 k] w (aN w F X g (pJ B k)):=by
 unfold pJ
 by_cases h0:B.gi k 21=0
 ·rw[if_pos h0]
  cases hl:B.gb k 28
  ·exact xQ w F X g k B h ho hk hn hT hF h25 h0 hl
  ·exact xP w F X g k B h ho hk hn hT hF h25 h0 hl
 rw[if_neg h0]
 by_cases h1:B.gi k 21=1
 ·rw[if_pos h1]
  rcases pK B k with ha|ha|ha|ha
  ·rw[if_neg (by omega),if_neg (by omega),if_neg (by omega)];exact uY w F X g k B h ho hk hn hT hF h25 h1 ha
  ·rw[if_pos ha];exact uZ w F X g k B h ho hk hn hT hF h25 h1 ha
  ·rw[if_neg (by omega),if_pos ha];exact u5 w F X g k B h ho hk hn hT hF h25 h1 ha
  ·rw[if_neg (by omega),if_neg (by omega),if_pos ha];exact u7 w F X g k B h ho hk hn hT hF h25 h1 ha
 rw[if_neg h1]
 by_cases h2:B.gi k 21=2
 ·rw[if_pos h2]
  rcases pM B k with ha|ha|ha|ha|ha|ha
  ·rw[if_neg (by omega),if_neg (by omega),if_neg (by omega),if_neg (by omega),if_neg (by omega)];exact uS w F X g k B h ho hk hn hT hF h25 h2 ha
  ·rw[if_pos ha];exact uT w F X g k B h ho hk hn hT hF h25 h2 ha
  ·rw[if_neg (by omega),if_pos ha];exact uU w F X g k B h ho hk hn hT hF h25 h2 ha
  ·rw[if_neg (by omega),if_neg (by omega),if_pos ha];exact uV w F X g k B h ho hk hn hT hF h25 h2 ha
  ·rw[if_neg (by omega),if_neg (by omega),if_neg (by omega),if_pos ha];exact u9 w F X g k B h ho hk hn hT hF h25 h2 ha
  ·rw[if_neg (by omega),if_neg (by omega),if_neg (by omega),if_neg (by omega),if_pos ha];exact uW w F X g k B h ho hk hn hT hF h25 h2 ha
 rw[if_neg h2]
 exact aB2 w F X g k B h ho hk hn hT hF h25 h0 h1 h2
theorem aEI(ao:Option Addr)(n cap:Nat)(hc:n≤cap)(hm:cap≤9223372036854775807)(h0:ao=none→n=0∧cap=0)(w:World):Calls Tryz.prog 57 #[.slice ao n cap] w fun e w'=>e=.returned (.slice ao n n)∧w=w':=by
 cases ao with
 | none =>
  obtain⟨rfl,rfl⟩:=h0 rfl
  go_enter Tryz.func57,Tryz.ntmps57
  go_wp2
  go_ret
  simp
 | some a =>
  clear h0
  go_enter Tryz.func57,Tryz.ntmps57
  go_wp2
  go_ret
  simp
def Br.flush(B:Br)(k:Nat):Br:={ B with nf:=B.nf+1,fl:=B.fl++[.int .i64 k] }
theorem BrG.flushed{w w2:World}{F:Nat→Prop}{X g k:Nat}{B:Br}(h:BrG w F X g B)(hd:B.hd.length=17)(hs:w.heap.size≤w2.heap.size)(hb:∀n,n<w.heap.size→w2.heap[n]?=w.heap[n]?){v':Value}(hr:w2.ownsRow w.heap.size 3 1 v' (B.nf+1) (B.fl++[.int .i64 k])):
    BrG (w2.setCell ⟨X,19,none⟩ v') (fun n=>F n∨(w.heap.size≤n∧n<w2.heap.size)) X g (B.flush k):=by
 obtain⟨h1,h2,cap,cur,s2,s3,a,b,c,d,e,f,p,q,r,s⟩:=h
 have lX:=aC a
 have lg:=aC b
 have hXg:X≠g:=by
  intro e0
  subst e0
  rw[a]at b
  cases b
 have aX:=(hb X lX).trans a
 have bg:=(hb g lg).trans b
 have own2:(w2.setCell ⟨X,19,none⟩ v').ownsRow 0 71 18 s2 B.no B.os:=k3 (iP p (fun q1 _ hq=>hb q1 hq)) aX (by decide) v'
 have own3:(w2.setCell ⟨X,19,none⟩ v').ownsRow 0 3 1 v' (B.nf+1) (B.fl++[.int .i64 k]):=by
  obtain⟨z1,z2⟩:=k3 hr aX (by decide) v'
  refine⟨z1,?_⟩
  rcases z2 with z2|⟨g3,c3,cu3,e1,e2,e3⟩
  ·exact .inl z2
  ·exact .inr ⟨g3,c3,cu3,e1,Nat.zero_le _,e3⟩
 refine⟨.inl h1,.inl h2,cap,cur,s2,v',?_,(heap_setCell_other _ _ _ _ (Ne.symm hXg)).trans bg,c,d,e,f,own2,own3,(fun m hm=>.inl (r m hm)),fun m hm=>?_⟩
 ·rw[heap_setCell_same _ _ _ _ _ _ aX]
  congr 2
  apply Array.ext'
  simp[Br.flush,List.set_append,hd]
 ·have:=hr.lt m hm
  exact .inr this
theorem aB4(w:World)(F:Nat→Prop)(X g k:Nat)(B:Br)(h:BrG w F X g B)(ho:B.ok)(hk:k<B.np)(hn:B.np<1000)(hT:TR (B.hi 2) (B.hi 3) (B.hi 4) (B.hi 5))(hF:∀n,F n→n<w.heap.size)(h25:B.gb k 25=true)(hnf:B.nf≤1000000000):Calls Tryz.prog 43 #[.pointer (some ⟨X,0,none⟩),.int .i64 k] w fun e w'=>e=.returned (.bool true)∧BrG w' (fun n=>F n∨(w.heap.size≤n∧n<w'.heap.size)) X g ((B.flush k).setp k 25 (.bool false))∧Mut F w w':=by
 obtain⟨hX,hg,hne⟩:=h.lt
 obtain⟨cap,c17,hc1,hc2⟩:=h.cell17 ho
 have p25:=qb h ho hk 25
 rw[h25]at p25
 have H:=hD h
 have hF1:=h.F1
 have hF2:=h.F2
 obtain⟨-,-,cap3,cur,s2,s3,aX,bg,-,-,-,-,-,q3,-,-⟩:=h
 have c19:w.cell? ⟨X,19,none⟩=some s3:=by
  rw[cell_of_row _ _ _ _ _ _ aX]
  simp[ho.hd.1,HL]
 have hfX:w.frozen? ⟨X,19,none⟩=false:=frozen_of_row _ _ _ _ _ aX
 have hcells:∃ao cp,s3=.slice ao B.nf cp∧B.nf≤cp∧cp≤9223372036854775807∧(ao=none→B.nf=0∧cp=0)∧(∀b,ao=some b→b.block<w.heap.size∧∀j u,B.fl[j]?=some u→w.cell? (b.add j)=some u):=by
  obtain⟨hl,⟨rfl,hz⟩|⟨g3,cp,cu,rfl,-,hg3,h1,h2,h3,h4⟩⟩:=q3
  ·exact⟨none,0,by rw[hz],by omega,by omega,fun _=>⟨hz,rfl⟩,fun b hb=>by cases hb⟩
  ·unfold maxLen at h2
   refine⟨some ⟨g3,0,none⟩,cp,rfl,h1,by omega,(fun hh=>by cases hh),fun b hb=>?_⟩
   cases hb
   refine⟨aC hg3,fun j u hu=>?_⟩
   rw[Addr.add_lit,Nat.zero_add,cell_of_row _ _ _ _ _ _ hg3]
   rw[←h4,List.getElem?_take]at hu
   split at hu
   ·simpa using hu
   ·cases hu
 obtain⟨ao,cp,rfl,hcp,hcm,h0,hcl⟩:=hcells
 obtain⟨i3,hi3,hz3,hs3,hb3⟩:=y8 aCY
 have hlen:B.fl.length=B.nf*1:=by
  have:=ho.fl.1
  simpa using this
 have hk8:k<1000:=by omega
 have HCL:=hD hcl
 have H0:=hD h0
 have HI:=hD (And.intro hi3 (And.intro hz3 (And.intro hs3 hb3)))
 have HLEN:=hD hlen
 have HHD:=hD (show B.hd.length=17 from ho.hd.1)
 have P25:=hD p25
 have HAX:=hD aX
 clear aX bg q3 hcl h0 hi3 hz3 hs3 hb3 hlen hF hT
 go_enter Tryz.func43,Tryz.ntmps43
 go_wp2_with fail
 refine(aEI ao B.nf cp hcp hcm H0.out _).mono ?_
 rintro e w' ⟨rfl,rfl⟩
 go_wp2_with (at_builtin;refine wpList_append_grows _ rfl _ _ 33 rfl 3 i3 (.int .i64 0) 1 8 Tryz.underlying33 HI.out.1 HI.out.2.1 HI.out.2.2.1 HI.out.2.2.2 rfl (by decide) ao B.nf B.nf B.fl rfl (fun hh=>⟨(H0.out hh).1,(H0.out hh).1⟩) HLEN.out ?olds ⟨w.heap.size,0,none⟩ 1 1 [.int .i64 k] rfl rfl ?news (by simp;rfl) (by omega) (by unfold maxLen;omega) (by omega) ?fin)
 case olds =>
  intro b hb j u hu
  obtain⟨l1,l2⟩:=HCL.out b hb
  have:=l2 j u hu
  have hbk:(b.add j).block=b.block:=by unfold Addr.add;split<;>rfl
  rw[(((Ext.refl w).alloc _).cell (p:=b.add j) (by rw[hbk];exact l1))]
  exact this
 case news =>
  intro j u hu
  exact World.news_of_block (heap_alloc_new w _) j u (by simpa using hu)
 case fin =>
  intro v' w2 hr hgb
  obtain⟨av,cv,rfl⟩:=lZ hr
  have hsz:w.heap.size+1≤w2.heap.size:=by
   have:=hgb.size
   simpa using this
  have hbl:∀n,n<w.heap.size→w2.heap[n]?=w.heap[n]?:=fun n hn'=>(hgb.block n (by simp;omega) (by simp)).trans (heap_alloc_old _ _ hn')
  have hr0:w2.ownsRow w.heap.size 3 1 (.slice av (B.nf+1) cv) (B.nf+1) (B.fl++[.int .i64 k]):=by
   obtain⟨z1,z2⟩:=hr
   refine⟨z1,?_⟩
   rcases z2 with z2|⟨g3,c3,cu3,e1,e2,e3⟩
   ·exact .inl z2
   ·exact .inr ⟨g3,c3,cu3,e1,(by first|omega|(rw[World.size_alloc]at e2;omega)),e3⟩
  have HBf:=hD (H.out.flushed HHD.out (by omega) hbl hr0)
  have hmut:Mut F w w2:=⟨hgb.os,hgb.tape,hgb.output,by omega,fun n hn' _=>hbl n hn'⟩
  have HMU:=hD (hmut.setCell (p:=⟨X,19,none⟩) (.inl hF1) (.slice av (B.nf+1) cv))
  have c19':w2.cell? ⟨X,19,none⟩=some (.slice ao B.nf cp):=(World.cell?_of_block (hbl X hX)).trans c19
  have f19':w2.frozen? ⟨X,19,none⟩=false:=frozen_of_row _ _ _ _ _ ((hbl X hX).trans HAX.out)
  have q25:=(HBf.out.cellg (i:=k*89+25) (bZ hk (by decide))).trans ((ho.gb hk 25 rfl))
  have qf:=HBf.out.frozen
  clear hr hr0 hmut c17 c19 hfX
  go_wp2_with fail
  go_ret
  have hfin:=HBf.out.setp (k:=k) (j:=25) hk (by decide) (.bool false)
  exact⟨rfl,hfin.mono (fun n hn=>hn.imp id (fun h2=>⟨h2.1,by simp only[World.size_setCell];exact h2.2⟩)),HMU.out.setCell (.inl hF2) _⟩
def jN(B:Br)(k:Nat):Bool × Br:=if B.gb k 25=true then(true,(B.flush k).setp k 25 (.bool false))else pJ B k
theorem aB5(w:World)(N:Nat→Prop)(X g k:Nat)(B:Br)(h:BrG w (fun n=>N n∧n<w.heap.size) X g B)(ho:B.ok)(hk:k<B.np)(hn:B.np<1000)(hQ:∀n,w.heap.size≤n→N n)(hT:TR (B.hi 2) (B.hi 3) (B.hi 4) (B.hi 5))(hnf:B.nf≤1000000000):
    Calls Tryz.prog 43 #[.pointer (some ⟨X,0,none⟩),.int .i64 k] w fun e w'=>e=.returned (.bool (jN B k).1)∧BrG w' (fun n=>N n∧n<w'.heap.size) X g (jN B k).2∧Mut (fun n=>N n) w w':=by
 have hX:=h.F1
 unfold jN
 cases h25:B.gb k 25
 ·rw[if_neg (by simp)]
  refine(aB3 w _ X g k B h ho hk hn hT (fun n hn'=>hn'.2) h25).mono ?_
  rintro e w' ⟨he,hB,hm⟩
  exact⟨he,hB.mono (fun n hn'=>⟨hn'.1,nL hn'.2 hm.size⟩),hm.mono (fun n _ hn'=>hn'.1)⟩
 ·rw[if_pos rfl]
  refine(aB4 w _ X g k B h ho hk hn hT (fun n hn'=>hn'.2) h25 hnf).mono ?_
  rintro e w' ⟨he,hB,hm⟩
  refine⟨he,hB.mono (fun n hn'=>?_),hm.mono (fun n _ hn'=>hn'.1)⟩
  have:=hm.size
  rcases hn' with hn'|hn'
  ·exact⟨hn'.1,by omega⟩
  ·exact⟨hQ n hn'.1,hn'.2⟩
section
variable {B:Br} {k:Nat}
end
def iA(sr:Bool)(r:Int):Int:=if sr=true then 2 else if r=3 then 1 else 0
def fR(sr:Bool)(r:Int):Bool:=if sr=true then r != 0 else if r=3 then true else r == 4
theorem gW(g o:Nat)(sr:Bool)(r:Int)(w:World)(h45:w.cell? ⟨g,o+45,none⟩=some (.bool sr))(h87:w.cell? ⟨g,o+87,none⟩=some (.int .i64 r)):
    Calls Tryz.prog 60 #[.pointer (some ⟨g,o,none⟩)] w fun e w'=>e=.returned (.tuple #[.int .i64 (iA sr r),.bool (fR sr r)])∧Ext w w':=by
 cases sr
 ·by_cases h3:r=3
  ·subst h3
   go_enter Tryz.func60,Tryz.ntmps60
   go_wp2_with fail
   go_ret2
   exact⟨rfl,Ext.refl w⟩
  ·have hb:(r == 3)=false:=by simpa using h3
   have e1:iA false r=0:=by simp[iA,h3]
   have e2:fR false r=(r == 4):=by simp[fR,h3]
   rw[e1,e2]
   clear e1 e2
   go_enter Tryz.func60,Tryz.ntmps60
   go_wp2_with fail
   go_quiet (fail)
   go_wp2_with fail
   go_ret2
   exact⟨rfl,(Ext.refl w).drewN _⟩
 ·have e1:iA true r=2:=by simp[iA]
  have e2:fR true r=(r != 0):=by simp[fR]
  rw[e1,e2]
  clear e1 e2
  go_enter Tryz.func60,Tryz.ntmps60
  go_wp2_with fail
  go_quiet (fail)
  go_wp2_with fail
  go_ret2
  exact⟨rfl,(Ext.refl w).drewN _⟩
end Go.Proofs.YtpanapepcbbagaaGreat
