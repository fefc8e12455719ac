/- Part 20 of what BridgeHold stands on. No statement is proved here. -/
import Derived.ArgAppend
import Derived.BigQuiet
import Derived.Test.YtpanapepcbbagaaGreatBps
set_option linter.unusedVariables false
set_option linter.unusedSimpArgs false
set_option maxRecDepth 100000
set_option maxHeartbeats 8000000
namespace Go.Proofs.YtpanapepcbbagaaGreat
open Go.RowKit Go.BigFrame Go.WideShapes Go.ChangeShapes Go.Deep
theorem top_step0a(w:World)(F:Nat→Prop)(X g k:Nat)(B:Br)(h:BrG w F X g B)(ho:B.ok)(hk:k<B.np)(hn:B.np<1000)(hT:TR (B.hi 2) (B.hi 3) (B.hi 4) (B.hi 5))(hF:∀n,F n→n<w.heap.size)(h25:B.gb k 25=false)(hs:B.gi k 21=0)(hl:B.gb k 28=true):Calls Tryz.prog 43 #[.pointer (some ⟨X,0,none⟩),.int .i64 k] w (Stepped w F X g (true,tforget B k)):=by
 obtain⟨hX,hg,hne⟩:=h.lt
 obtain⟨cap,c17,hc1,hc2⟩:=h.cell17 ho
 have p25:=(h.cellg (i:=k*89+25) (lt89 hk (by decide))).trans (ho.gb hk 25 rfl)
 rw[h25]at p25
 have HTR:=hD (times_range h ho)
 have H:=hD h
 have HF:=hD hF
 have HT:=hD hT
 have H_hs:=hD hs
 clear hs
 have H_hl:=hD hl
 clear hl
 have hk8:k<1000:=by omega
 clear h hF hT h25
 go_enter Tryz.func43,Tryz.ntmps43
 go_wp2_with fail
 refine beginL (S:=fun W'=>Ext w W') (by kernel_rfl) ?_
 intro wd hrf
 refine tLp 0 ((.pointer (some ⟨g,k*89,none⟩))) rfl hrf ?_
 refine tLp 1 ((.pointer (some ⟨X,0,none⟩))) rfl hrf ?_
 refine tLp 2 ((.pointer (some ⟨X,0,none⟩))) rfl hrf ?_
 refine tLp 3 ((.pointer (some ⟨X,2,none⟩))) rfl hrf ?_
 refine tL 4 (_) rfl (yieldsIf_load_mid rfl 24 _ rfl X (2) rfl ([.int .i64 (B.hi 2),.int .i64 (B.hi 3),.int .i64 (B.hi 4),.int .i64 (B.hi 5)]) _ (fun W' hW'=>rangeAt_ext HTR.out hW' hX) Tryz.underlying24 rfl top_size_times) hrf ?_
 refine tLp 5 ((.pointer (some ⟨X,0,none⟩))) rfl hrf ?_
 refine tLp 6 ((.int .i64 (k:Int))) rfl hrf ?_
 refine runL (i:=7) rfl rfl (by kernel_rfl) (fun K hK=>?_)
 go_simp
 refine(top_teller _ X k).mono ?_
 rintro e y1 ⟨b1,b2,rfl,hy1,hb1,hb2,d1,d2⟩
 have hr1:=hrf.trans hy1
 have hsz:=hrf.size
 have f1:¬F b1:=fun hh=>by have:=HF.out _ hh;omega
 have f2:¬F b2:=fun hh=>by have:=HF.out _ hh;omega
 have D1:=hD d1
 have D2:=hD d2
 clear d1 d2 hy1 hrf hsz hb1 hb2
 refine hK.out _ _ hr1 (fun hHeld=>?_)
 try simp only[ps]
 clear hK K
 have hmb:=fun W':World=>mem_build (.pointer (some ⟨g,k*89,none⟩)) (.func (.func 128) #[] #[.pointer (some ⟨b1,0,none⟩),.pointer (some ⟨b2,0,none⟩)]) (B.hi 2) (B.hi 3) (B.hi 4) (B.hi 5) W' ⟨_,rfl⟩ ⟨_,_,_,rfl⟩
 refine tL 8 ((.agg #[.pointer (some ⟨g,k*89,none⟩),.int .i64 (B.hi 2),.int .i64 (B.hi 3),.int .i64 (B.hi 4),.int .i64 (B.hi 5),.func (.func 128) #[] #[.pointer (some ⟨b1,0,none⟩),.pointer (some ⟨b2,0,none⟩)]])) rfl (Or.inl ⟨rfl,fun W' _=>by go_simp⟩) hr1 ?_
 clear hmb
 refine runL (i:=9) rfl rfl (by kernel_rfl) (fun K hK=>?_)
 go_simp
 refine(asv (v':=(.func (.func 129) #[.agg #[.pointer (some ⟨g,k*89,none⟩),.int .i64 (B.hi 2),.int .i64 (B.hi 3),.int .i64 (B.hi 4),.int .i64 (B.hi 5),.func (.func 128) #[] #[.pointer (some ⟨b1,0,none⟩),.pointer (some ⟨b2,0,none⟩)]]] #[])) (top_row0a y1 F X g k B (H.out.ext hr1) ho hk b1 b2 H_hs.out H_hl.out) rfl).mono ?_
 rintro e y2 ⟨rfl,hy2⟩
 have hr2:=hr1.trans hy2
 have c1:=(hy2.cell (p:=⟨b1,0,none⟩) (World.block_lt_of_cell? _ _ D1.out)).trans D1.out
 have c2:=(hy2.cell (p:=⟨b2,0,none⟩) (World.block_lt_of_cell? _ _ D2.out)).trans D2.out
 have C1:=hD c1
 have C2:=hD c2
 clear c1 c2 hy2 D1 D2
 refine hK.out _ _ hr2 (fun hHeld=>?_)
 try simp only[ps]
 clear hK K
 refine tLp 10 ((.func (.func 129) #[.agg #[.pointer (some ⟨g,k*89,none⟩),.int .i64 (B.hi 2),.int .i64 (B.hi 3),.int .i64 (B.hi 4),.int .i64 (B.hi 5),.func (.func 128) #[] #[.pointer (some ⟨b1,0,none⟩),.pointer (some ⟨b2,0,none⟩)]]] #[])) rfl hr2 ?_
 refine wpAnyH_done (by kernel_rfl) ?_ _
 have HR:=hD hr2
 clear hr1 hr2 c17 p25
 have q0:=topfn_eq0
 have q1:=topfn_eq 129
 go_wp2_with fail
 refine(top_forget y2 F X g k B (H.out.ext HR.out) ho hk hn HT.out (fun n hn'=>nL (HF.out n hn') HR.out.size) b1 b2).mono ?_
 rintro e y3 ⟨rfl,hB,hm⟩
 have HB:=hD hB
 have HQ:=hD ((HR.out.mut F).trans hm)
 clear hB hm
 go_wp2_with fail
 go_ret
 exact⟨rfl,HB.out,HQ.out⟩
theorem top_step0b(w:World)(F:Nat→Prop)(X g k:Nat)(B:Br)(h:BrG w F X g B)(ho:B.ok)(hk:k<B.np)(hn:B.np<1000)(hT:TR (B.hi 2) (B.hi 3) (B.hi 4) (B.hi 5))(hF:∀n,F n→n<w.heap.size)(h25:B.gb k 25=false)(hs:B.gi k 21=0)(hl:B.gb k 28=false):Calls Tryz.prog 43 #[.pointer (some ⟨X,0,none⟩),.int .i64 k] w (Stepped w F X g (false,B)):=by
 obtain⟨hX,hg,hne⟩:=h.lt
 obtain⟨cap,c17,hc1,hc2⟩:=h.cell17 ho
 have p25:=(h.cellg (i:=k*89+25) (lt89 hk (by decide))).trans (ho.gb hk 25 rfl)
 rw[h25]at p25
 have HTR:=hD (times_range h ho)
 have H:=hD h
 have HF:=hD hF
 have HT:=hD hT
 have H_hs:=hD hs
 clear hs
 have H_hl:=hD hl
 clear hl
 have hk8:k<1000:=by omega
 clear h hF hT h25
 go_enter Tryz.func43,Tryz.ntmps43
 go_wp2_with fail
 refine beginL (S:=fun W'=>Ext w W') (by kernel_rfl) ?_
 intro wd hrf
 refine tLp 0 ((.pointer (some ⟨g,k*89,none⟩))) rfl hrf ?_
 refine tLp 1 ((.pointer (some ⟨X,0,none⟩))) rfl hrf ?_
 refine tLp 2 ((.pointer (some ⟨X,0,none⟩))) rfl hrf ?_
 refine tLp 3 ((.pointer (some ⟨X,2,none⟩))) rfl hrf ?_
 refine tL 4 (_) rfl (yieldsIf_load_mid rfl 24 _ rfl X (2) rfl ([.int .i64 (B.hi 2),.int .i64 (B.hi 3),.int .i64 (B.hi 4),.int .i64 (B.hi 5)]) _ (fun W' hW'=>rangeAt_ext HTR.out hW' hX) Tryz.underlying24 rfl top_size_times) hrf ?_
 refine tLp 5 ((.pointer (some ⟨X,0,none⟩))) rfl hrf ?_
 refine tLp 6 ((.int .i64 (k:Int))) rfl hrf ?_
 refine runL (i:=7) rfl rfl (by kernel_rfl) (fun K hK=>?_)
 go_simp
 refine(top_teller _ X k).mono ?_
 rintro e y1 ⟨b1,b2,rfl,hy1,hb1,hb2,d1,d2⟩
 have hr1:=hrf.trans hy1
 have hsz:=hrf.size
 have f1:¬F b1:=fun hh=>by have:=HF.out _ hh;omega
 have f2:¬F b2:=fun hh=>by have:=HF.out _ hh;omega
 have D1:=hD d1
 have D2:=hD d2
 clear d1 d2 hy1 hrf hsz hb1 hb2
 refine hK.out _ _ hr1 (fun hHeld=>?_)
 try simp only[ps]
 clear hK K
 have hmb:=fun W':World=>mem_build (.pointer (some ⟨g,k*89,none⟩)) (.func (.func 128) #[] #[.pointer (some ⟨b1,0,none⟩),.pointer (some ⟨b2,0,none⟩)]) (B.hi 2) (B.hi 3) (B.hi 4) (B.hi 5) W' ⟨_,rfl⟩ ⟨_,_,_,rfl⟩
 refine tL 8 ((.agg #[.pointer (some ⟨g,k*89,none⟩),.int .i64 (B.hi 2),.int .i64 (B.hi 3),.int .i64 (B.hi 4),.int .i64 (B.hi 5),.func (.func 128) #[] #[.pointer (some ⟨b1,0,none⟩),.pointer (some ⟨b2,0,none⟩)]])) rfl (Or.inl ⟨rfl,fun W' _=>by go_simp⟩) hr1 ?_
 clear hmb
 refine runL (i:=9) rfl rfl (by kernel_rfl) (fun K hK=>?_)
 go_simp
 refine(asv (v':=Value.nilFunc) (top_row0b y1 F X g k B (H.out.ext hr1) ho hk b1 b2 H_hs.out H_hl.out) rfl).mono ?_
 rintro e y2 ⟨rfl,hy2⟩
 have hr2:=hr1.trans hy2
 have c1:=(hy2.cell (p:=⟨b1,0,none⟩) (World.block_lt_of_cell? _ _ D1.out)).trans D1.out
 have c2:=(hy2.cell (p:=⟨b2,0,none⟩) (World.block_lt_of_cell? _ _ D2.out)).trans D2.out
 have C1:=hD c1
 have C2:=hD c2
 clear c1 c2 hy2 D1 D2
 refine hK.out _ _ hr2 (fun hHeld=>?_)
 try simp only[ps]
 clear hK K
 refine tLp 10 (Value.nilFunc) rfl hr2 ?_
 refine wpAnyH_done (by kernel_rfl) ?_ _
 have HR:=hD hr2
 clear hr1 hr2 c17 p25
 have q0:=topfn_eq0
 go_wp2_with fail
 go_ret
 exact⟨rfl,H.out.ext HR.out,HR.out.mut F⟩
theorem top_step9(w:World)(F:Nat→Prop)(X g k:Nat)(B:Br)(h:BrG w F X g B)(ho:B.ok)(hk:k<B.np)(hn:B.np<1000)(hT:TR (B.hi 2) (B.hi 3) (B.hi 4) (B.hi 5))(hF:∀n,F n→n<w.heap.size)(h25:B.gb k 25=false)(h0:B.gi k 21≠0)(h1:B.gi k 21≠1)(h2:B.gi k 21≠2):Calls Tryz.prog 43 #[.pointer (some ⟨X,0,none⟩),.int .i64 k] w (Stepped w F X g (false,B)):=by
 obtain⟨hX,hg,hne⟩:=h.lt
 obtain⟨cap,c17,hc1,hc2⟩:=h.cell17 ho
 have p25:=(h.cellg (i:=k*89+25) (lt89 hk (by decide))).trans (ho.gb hk 25 rfl)
 rw[h25]at p25
 have HTR:=hD (times_range h ho)
 have H:=hD h
 have HF:=hD hF
 have HT:=hD hT
 have H_h0:=hD h0
 clear h0
 have H_h1:=hD h1
 clear h1
 have H_h2:=hD h2
 clear h2
 have hk8:k<1000:=by omega
 clear h hF hT h25
 go_enter Tryz.func43,Tryz.ntmps43
 go_wp2_with fail
 refine beginL (S:=fun W'=>Ext w W') (by kernel_rfl) ?_
 intro wd hrf
 refine tLp 0 ((.pointer (some ⟨g,k*89,none⟩))) rfl hrf ?_
 refine tLp 1 ((.pointer (some ⟨X,0,none⟩))) rfl hrf ?_
 refine tLp 2 ((.pointer (some ⟨X,0,none⟩))) rfl hrf ?_
 refine tLp 3 ((.pointer (some ⟨X,2,none⟩))) rfl hrf ?_
 refine tL 4 (_) rfl (yieldsIf_load_mid rfl 24 _ rfl X (2) rfl ([.int .i64 (B.hi 2),.int .i64 (B.hi 3),.int .i64 (B.hi 4),.int .i64 (B.hi 5)]) _ (fun W' hW'=>rangeAt_ext HTR.out hW' hX) Tryz.underlying24 rfl top_size_times) hrf ?_
 refine tLp 5 ((.pointer (some ⟨X,0,none⟩))) rfl hrf ?_
 refine tLp 6 ((.int .i64 (k:Int))) rfl hrf ?_
 refine runL (i:=7) rfl rfl (by kernel_rfl) (fun K hK=>?_)
 go_simp
 refine(top_teller _ X k).mono ?_
 rintro e y1 ⟨b1,b2,rfl,hy1,hb1,hb2,d1,d2⟩
 have hr1:=hrf.trans hy1
 have hsz:=hrf.size
 have f1:¬F b1:=fun hh=>by have:=HF.out _ hh;omega
 have f2:¬F b2:=fun hh=>by have:=HF.out _ hh;omega
 have D1:=hD d1
 have D2:=hD d2
 clear d1 d2 hy1 hrf hsz hb1 hb2
 refine hK.out _ _ hr1 (fun hHeld=>?_)
 try simp only[ps]
 clear hK K
 have hmb:=fun W':World=>mem_build (.pointer (some ⟨g,k*89,none⟩)) (.func (.func 128) #[] #[.pointer (some ⟨b1,0,none⟩),.pointer (some ⟨b2,0,none⟩)]) (B.hi 2) (B.hi 3) (B.hi 4) (B.hi 5) W' ⟨_,rfl⟩ ⟨_,_,_,rfl⟩
 refine tL 8 ((.agg #[.pointer (some ⟨g,k*89,none⟩),.int .i64 (B.hi 2),.int .i64 (B.hi 3),.int .i64 (B.hi 4),.int .i64 (B.hi 5),.func (.func 128) #[] #[.pointer (some ⟨b1,0,none⟩),.pointer (some ⟨b2,0,none⟩)]])) rfl (Or.inl ⟨rfl,fun W' _=>by go_simp⟩) hr1 ?_
 clear hmb
 refine runL (i:=9) rfl rfl (by kernel_rfl) (fun K hK=>?_)
 go_simp
 refine(asv (v':=Value.nilFunc) (top_row9 y1 F X g k B (H.out.ext hr1) ho hk b1 b2 H_h0.out H_h1.out H_h2.out) rfl).mono ?_
 rintro e y2 ⟨rfl,hy2⟩
 have hr2:=hr1.trans hy2
 have c1:=(hy2.cell (p:=⟨b1,0,none⟩) (World.block_lt_of_cell? _ _ D1.out)).trans D1.out
 have c2:=(hy2.cell (p:=⟨b2,0,none⟩) (World.block_lt_of_cell? _ _ D2.out)).trans D2.out
 have C1:=hD c1
 have C2:=hD c2
 clear c1 c2 hy2 D1 D2
 refine hK.out _ _ hr2 (fun hHeld=>?_)
 try simp only[ps]
 clear hK K
 refine tLp 10 (Value.nilFunc) rfl hr2 ?_
 refine wpAnyH_done (by kernel_rfl) ?_ _
 have HR:=hD hr2
 clear hr1 hr2 c17 p25
 have q0:=topfn_eq0
 go_wp2_with fail
 go_ret
 exact⟨rfl,H.out.ext HR.out,HR.out.mut F⟩
theorem top_step1_0(w:World)(F:Nat→Prop)(X g k:Nat)(B:Br)(h:BrG w F X g B)(ho:B.ok)(hk:k<B.np)(hn:B.np<1000)(hT:TR (B.hi 2) (B.hi 3) (B.hi 4) (B.hi 5))(hF:∀n,F n→n<w.heap.size)(h25:B.gb k 25=false)(hs:B.gi k 21=1)(ha:act1 B k=0):Calls Tryz.prog 43 #[.pointer (some ⟨X,0,none⟩),.int .i64 k] w (Stepped w F X g (false,B)):=by
 obtain⟨hX,hg,hne⟩:=h.lt
 obtain⟨cap,c17,hc1,hc2⟩:=h.cell17 ho
 have p25:=(h.cellg (i:=k*89+25) (lt89 hk (by decide))).trans (ho.gb hk 25 rfl)
 rw[h25]at p25
 have HTR:=hD (times_range h ho)
 have H:=hD h
 have HF:=hD hF
 have HT:=hD hT
 have H_hs:=hD hs
 clear hs
 have H_ha:=hD ha
 clear ha
 have hk8:k<1000:=by omega
 clear h hF hT h25
 go_enter Tryz.func43,Tryz.ntmps43
 go_wp2_with fail
 refine beginL (S:=fun W'=>Ext w W') (by kernel_rfl) ?_
 intro wd hrf
 refine tLp 0 ((.pointer (some ⟨g,k*89,none⟩))) rfl hrf ?_
 refine tLp 1 ((.pointer (some ⟨X,0,none⟩))) rfl hrf ?_
 refine tLp 2 ((.pointer (some ⟨X,0,none⟩))) rfl hrf ?_
 refine tLp 3 ((.pointer (some ⟨X,2,none⟩))) rfl hrf ?_
 refine tL 4 (_) rfl (yieldsIf_load_mid rfl 24 _ rfl X (2) rfl ([.int .i64 (B.hi 2),.int .i64 (B.hi 3),.int .i64 (B.hi 4),.int .i64 (B.hi 5)]) _ (fun W' hW'=>rangeAt_ext HTR.out hW' hX) Tryz.underlying24 rfl top_size_times) hrf ?_
 refine tLp 5 ((.pointer (some ⟨X,0,none⟩))) rfl hrf ?_
 refine tLp 6 ((.int .i64 (k:Int))) rfl hrf ?_
 refine runL (i:=7) rfl rfl (by kernel_rfl) (fun K hK=>?_)
 go_simp
 refine(top_teller _ X k).mono ?_
 rintro e y1 ⟨b1,b2,rfl,hy1,hb1,hb2,d1,d2⟩
 have hr1:=hrf.trans hy1
 have hsz:=hrf.size
 have f1:¬F b1:=fun hh=>by have:=HF.out _ hh;omega
 have f2:¬F b2:=fun hh=>by have:=HF.out _ hh;omega
 have D1:=hD d1
 have D2:=hD d2
 clear d1 d2 hy1 hrf hsz hb1 hb2
 refine hK.out _ _ hr1 (fun hHeld=>?_)
 try simp only[ps]
 clear hK K
 have hmb:=fun W':World=>mem_build (.pointer (some ⟨g,k*89,none⟩)) (.func (.func 128) #[] #[.pointer (some ⟨b1,0,none⟩),.pointer (some ⟨b2,0,none⟩)]) (B.hi 2) (B.hi 3) (B.hi 4) (B.hi 5) W' ⟨_,rfl⟩ ⟨_,_,_,rfl⟩
 refine tL 8 ((.agg #[.pointer (some ⟨g,k*89,none⟩),.int .i64 (B.hi 2),.int .i64 (B.hi 3),.int .i64 (B.hi 4),.int .i64 (B.hi 5),.func (.func 128) #[] #[.pointer (some ⟨b1,0,none⟩),.pointer (some ⟨b2,0,none⟩)]])) rfl (Or.inl ⟨rfl,fun W' _=>by go_simp⟩) hr1 ?_
 clear hmb
 refine runL (i:=9) rfl rfl (by kernel_rfl) (fun K hK=>?_)
 go_simp
 refine(asv (v':=Value.nilFunc) (top_row1 y1 F X g k B (H.out.ext hr1) ho hk b1 b2 H_hs.out) (by rw[H_ha.out];rfl)).mono ?_
 rintro e y2 ⟨rfl,hy2⟩
 have hr2:=hr1.trans hy2
 have c1:=(hy2.cell (p:=⟨b1,0,none⟩) (World.block_lt_of_cell? _ _ D1.out)).trans D1.out
 have c2:=(hy2.cell (p:=⟨b2,0,none⟩) (World.block_lt_of_cell? _ _ D2.out)).trans D2.out
 have C1:=hD c1
 have C2:=hD c2
 clear c1 c2 hy2 D1 D2
 refine hK.out _ _ hr2 (fun hHeld=>?_)
 try simp only[ps]
 clear hK K
 refine tLp 10 (Value.nilFunc) rfl hr2 ?_
 refine wpAnyH_done (by kernel_rfl) ?_ _
 have HR:=hD hr2
 clear hr1 hr2 c17 p25
 have q0:=topfn_eq0
 go_wp2_with fail
 go_ret
 exact⟨rfl,H.out.ext HR.out,HR.out.mut F⟩
theorem top_step1_1(w:World)(F:Nat→Prop)(X g k:Nat)(B:Br)(h:BrG w F X g B)(ho:B.ok)(hk:k<B.np)(hn:B.np<1000)(hT:TR (B.hi 2) (B.hi 3) (B.hi 4) (B.hi 5))(hF:∀n,F n→n<w.heap.size)(h25:B.gb k 25=false)(hs:B.gi k 21=1)(ha:act1 B k=1):Calls Tryz.prog 43 #[.pointer (some ⟨X,0,none⟩),.int .i64 k] w (Stepped w F X g (true,tactiv B k)):=by
 obtain⟨hX,hg,hne⟩:=h.lt
 obtain⟨cap,c17,hc1,hc2⟩:=h.cell17 ho
 have p25:=(h.cellg (i:=k*89+25) (lt89 hk (by decide))).trans (ho.gb hk 25 rfl)
 rw[h25]at p25
 have HTR:=hD (times_range h ho)
 have H:=hD h
 have HF:=hD hF
 have HT:=hD hT
 have H_hs:=hD hs
 clear hs
 have H_ha:=hD ha
 clear ha
 have hk8:k<1000:=by omega
 clear h hF hT h25
 go_enter Tryz.func43,Tryz.ntmps43
 go_wp2_with fail
 refine beginL (S:=fun W'=>Ext w W') (by kernel_rfl) ?_
 intro wd hrf
 refine tLp 0 ((.pointer (some ⟨g,k*89,none⟩))) rfl hrf ?_
 refine tLp 1 ((.pointer (some ⟨X,0,none⟩))) rfl hrf ?_
 refine tLp 2 ((.pointer (some ⟨X,0,none⟩))) rfl hrf ?_
 refine tLp 3 ((.pointer (some ⟨X,2,none⟩))) rfl hrf ?_
 refine tL 4 (_) rfl (yieldsIf_load_mid rfl 24 _ rfl X (2) rfl ([.int .i64 (B.hi 2),.int .i64 (B.hi 3),.int .i64 (B.hi 4),.int .i64 (B.hi 5)]) _ (fun W' hW'=>rangeAt_ext HTR.out hW' hX) Tryz.underlying24 rfl top_size_times) hrf ?_
 refine tLp 5 ((.pointer (some ⟨X,0,none⟩))) rfl hrf ?_
 refine tLp 6 ((.int .i64 (k:Int))) rfl hrf ?_
 refine runL (i:=7) rfl rfl (by kernel_rfl) (fun K hK=>?_)
 go_simp
 refine(top_teller _ X k).mono ?_
 rintro e y1 ⟨b1,b2,rfl,hy1,hb1,hb2,d1,d2⟩
 have hr1:=hrf.trans hy1
 have hsz:=hrf.size
 have f1:¬F b1:=fun hh=>by have:=HF.out _ hh;omega
 have f2:¬F b2:=fun hh=>by have:=HF.out _ hh;omega
 have D1:=hD d1
 have D2:=hD d2
 clear d1 d2 hy1 hrf hsz hb1 hb2
 refine hK.out _ _ hr1 (fun hHeld=>?_)
 try simp only[ps]
 clear hK K
 have hmb:=fun W':World=>mem_build (.pointer (some ⟨g,k*89,none⟩)) (.func (.func 128) #[] #[.pointer (some ⟨b1,0,none⟩),.pointer (some ⟨b2,0,none⟩)]) (B.hi 2) (B.hi 3) (B.hi 4) (B.hi 5) W' ⟨_,rfl⟩ ⟨_,_,_,rfl⟩
 refine tL 8 ((.agg #[.pointer (some ⟨g,k*89,none⟩),.int .i64 (B.hi 2),.int .i64 (B.hi 3),.int .i64 (B.hi 4),.int .i64 (B.hi 5),.func (.func 128) #[] #[.pointer (some ⟨b1,0,none⟩),.pointer (some ⟨b2,0,none⟩)]])) rfl (Or.inl ⟨rfl,fun W' _=>by go_simp⟩) hr1 ?_
 clear hmb
 refine runL (i:=9) rfl rfl (by kernel_rfl) (fun K hK=>?_)
 go_simp
 refine(asv (v':=(.func (.func 155) #[.agg #[.pointer (some ⟨g,k*89,none⟩),.int .i64 (B.hi 2),.int .i64 (B.hi 3),.int .i64 (B.hi 4),.int .i64 (B.hi 5),.func (.func 128) #[] #[.pointer (some ⟨b1,0,none⟩),.pointer (some ⟨b2,0,none⟩)]]] #[])) (top_row1 y1 F X g k B (H.out.ext hr1) ho hk b1 b2 H_hs.out) (by rw[H_ha.out];rfl)).mono ?_
 rintro e y2 ⟨rfl,hy2⟩
 have hr2:=hr1.trans hy2
 have c1:=(hy2.cell (p:=⟨b1,0,none⟩) (World.block_lt_of_cell? _ _ D1.out)).trans D1.out
 have c2:=(hy2.cell (p:=⟨b2,0,none⟩) (World.block_lt_of_cell? _ _ D2.out)).trans D2.out
 have C1:=hD c1
 have C2:=hD c2
 clear c1 c2 hy2 D1 D2
 refine hK.out _ _ hr2 (fun hHeld=>?_)
 try simp only[ps]
 clear hK K
 refine tLp 10 ((.func (.func 155) #[.agg #[.pointer (some ⟨g,k*89,none⟩),.int .i64 (B.hi 2),.int .i64 (B.hi 3),.int .i64 (B.hi 4),.int .i64 (B.hi 5),.func (.func 128) #[] #[.pointer (some ⟨b1,0,none⟩),.pointer (some ⟨b2,0,none⟩)]]] #[])) rfl hr2 ?_
 refine wpAnyH_done (by kernel_rfl) ?_ _
 have HR:=hD hr2
 clear hr1 hr2 c17 p25
 have q0:=topfn_eq0
 have q1:=topfn_eq 155
 go_wp2_with fail
 refine(top_activate y2 F X g k B (H.out.ext HR.out) ho hk hn HT.out (fun n hn'=>nL (HF.out n hn') HR.out.size) b1 b2 C1.out C2.out f1 f2).mono ?_
 rintro e y3 ⟨rfl,hB,hm⟩
 have HB:=hD hB
 have HQ:=hD ((HR.out.mut F).trans hm)
 clear hB hm
 go_wp2_with fail
 go_ret
 exact⟨rfl,HB.out,HQ.out⟩
theorem top_step1_2(w:World)(F:Nat→Prop)(X g k:Nat)(B:Br)(h:BrG w F X g B)(ho:B.ok)(hk:k<B.np)(hn:B.np<1000)(hT:TR (B.hi 2) (B.hi 3) (B.hi 4) (B.hi 5))(hF:∀n,F n→n<w.heap.size)(h25:B.gb k 25=false)(hs:B.gi k 21=1)(ha:act1 B k=2):Calls Tryz.prog 43 #[.pointer (some ⟨X,0,none⟩),.int .i64 k] w (Stepped w F X g (true,tleave B k)):=by
 obtain⟨hX,hg,hne⟩:=h.lt
 obtain⟨cap,c17,hc1,hc2⟩:=h.cell17 ho
 have p25:=(h.cellg (i:=k*89+25) (lt89 hk (by decide))).trans (ho.gb hk 25 rfl)
 rw[h25]at p25
 have HTR:=hD (times_range h ho)
 have H:=hD h
 have HF:=hD hF
 have HT:=hD hT
 have H_hs:=hD hs
 clear hs
 have H_ha:=hD ha
 clear ha
 have hk8:k<1000:=by omega
 clear h hF hT h25
 go_enter Tryz.func43,Tryz.ntmps43
 go_wp2_with fail
 refine beginL (S:=fun W'=>Ext w W') (by kernel_rfl) ?_
 intro wd hrf
 refine tLp 0 ((.pointer (some ⟨g,k*89,none⟩))) rfl hrf ?_
 refine tLp 1 ((.pointer (some ⟨X,0,none⟩))) rfl hrf ?_
 refine tLp 2 ((.pointer (some ⟨X,0,none⟩))) rfl hrf ?_
 refine tLp 3 ((.pointer (some ⟨X,2,none⟩))) rfl hrf ?_
 refine tL 4 (_) rfl (yieldsIf_load_mid rfl 24 _ rfl X (2) rfl ([.int .i64 (B.hi 2),.int .i64 (B.hi 3),.int .i64 (B.hi 4),.int .i64 (B.hi 5)]) _ (fun W' hW'=>rangeAt_ext HTR.out hW' hX) Tryz.underlying24 rfl top_size_times) hrf ?_
 refine tLp 5 ((.pointer (some ⟨X,0,none⟩))) rfl hrf ?_
 refine tLp 6 ((.int .i64 (k:Int))) rfl hrf ?_
 refine runL (i:=7) rfl rfl (by kernel_rfl) (fun K hK=>?_)
 go_simp
 refine(top_teller _ X k).mono ?_
 rintro e y1 ⟨b1,b2,rfl,hy1,hb1,hb2,d1,d2⟩
 have hr1:=hrf.trans hy1
 have hsz:=hrf.size
 have f1:¬F b1:=fun hh=>by have:=HF.out _ hh;omega
 have f2:¬F b2:=fun hh=>by have:=HF.out _ hh;omega
 have D1:=hD d1
 have D2:=hD d2
 clear d1 d2 hy1 hrf hsz hb1 hb2
 refine hK.out _ _ hr1 (fun hHeld=>?_)
 try simp only[ps]
 clear hK K
 have hmb:=fun W':World=>mem_build (.pointer (some ⟨g,k*89,none⟩)) (.func (.func 128) #[] #[.pointer (some ⟨b1,0,none⟩),.pointer (some ⟨b2,0,none⟩)]) (B.hi 2) (B.hi 3) (B.hi 4) (B.hi 5) W' ⟨_,rfl⟩ ⟨_,_,_,rfl⟩
 refine tL 8 ((.agg #[.pointer (some ⟨g,k*89,none⟩),.int .i64 (B.hi 2),.int .i64 (B.hi 3),.int .i64 (B.hi 4),.int .i64 (B.hi 5),.func (.func 128) #[] #[.pointer (some ⟨b1,0,none⟩),.pointer (some ⟨b2,0,none⟩)]])) rfl (Or.inl ⟨rfl,fun W' _=>by go_simp⟩) hr1 ?_
 clear hmb
 refine runL (i:=9) rfl rfl (by kernel_rfl) (fun K hK=>?_)
 go_simp
 refine(asv (v':=(.func (.func 157) #[.agg #[.pointer (some ⟨g,k*89,none⟩),.int .i64 (B.hi 2),.int .i64 (B.hi 3),.int .i64 (B.hi 4),.int .i64 (B.hi 5),.func (.func 128) #[] #[.pointer (some ⟨b1,0,none⟩),.pointer (some ⟨b2,0,none⟩)]]] #[])) (top_row1 y1 F X g k B (H.out.ext hr1) ho hk b1 b2 H_hs.out) (by rw[H_ha.out];rfl)).mono ?_
 rintro e y2 ⟨rfl,hy2⟩
 have hr2:=hr1.trans hy2
 have c1:=(hy2.cell (p:=⟨b1,0,none⟩) (World.block_lt_of_cell? _ _ D1.out)).trans D1.out
 have c2:=(hy2.cell (p:=⟨b2,0,none⟩) (World.block_lt_of_cell? _ _ D2.out)).trans D2.out
 have C1:=hD c1
 have C2:=hD c2
 clear c1 c2 hy2 D1 D2
 refine hK.out _ _ hr2 (fun hHeld=>?_)
 try simp only[ps]
 clear hK K
 refine tLp 10 ((.func (.func 157) #[.agg #[.pointer (some ⟨g,k*89,none⟩),.int .i64 (B.hi 2),.int .i64 (B.hi 3),.int .i64 (B.hi 4),.int .i64 (B.hi 5),.func (.func 128) #[] #[.pointer (some ⟨b1,0,none⟩),.pointer (some ⟨b2,0,none⟩)]]] #[])) rfl hr2 ?_
 refine wpAnyH_done (by kernel_rfl) ?_ _
 have HR:=hD hr2
 clear hr1 hr2 c17 p25
 have q0:=topfn_eq0
 have q1:=topfn_eq 157
 go_wp2_with fail
 refine(top_leave y2 F X g k B (H.out.ext HR.out) ho hk hn HT.out (fun n hn'=>nL (HF.out n hn') HR.out.size) b1 b2).mono ?_
 rintro e y3 ⟨rfl,hB,hm⟩
 have HB:=hD hB
 have HQ:=hD ((HR.out.mut F).trans hm)
 clear hB hm
 go_wp2_with fail
 go_ret
 exact⟨rfl,HB.out,HQ.out⟩
theorem top_step1_3(w:World)(F:Nat→Prop)(X g k:Nat)(B:Br)(h:BrG w F X g B)(ho:B.ok)(hk:k<B.np)(hn:B.np<1000)(hT:TR (B.hi 2) (B.hi 3) (B.hi 4) (B.hi 5))(hF:∀n,F n→n<w.heap.size)(h25:B.gb k 25=false)(hs:B.gi k 21=1)(ha:act1 B k=3):Calls Tryz.prog 43 #[.pointer (some ⟨X,0,none⟩),.int .i64 k] w (Stepped w F X g (true,tforget B k)):=by
 obtain⟨hX,hg,hne⟩:=h.lt
 obtain⟨cap,c17,hc1,hc2⟩:=h.cell17 ho
 have p25:=(h.cellg (i:=k*89+25) (lt89 hk (by decide))).trans (ho.gb hk 25 rfl)
 rw[h25]at p25
 have HTR:=hD (times_range h ho)
 have H:=hD h
 have HF:=hD hF
 have HT:=hD hT
 have H_hs:=hD hs
 clear hs
 have H_ha:=hD ha
 clear ha
 have hk8:k<1000:=by omega
 clear h hF hT h25
 go_enter Tryz.func43,Tryz.ntmps43
 go_wp2_with fail
 refine beginL (S:=fun W'=>Ext w W') (by kernel_rfl) ?_
 intro wd hrf
 refine tLp 0 ((.pointer (some ⟨g,k*89,none⟩))) rfl hrf ?_
 refine tLp 1 ((.pointer (some ⟨X,0,none⟩))) rfl hrf ?_
 refine tLp 2 ((.pointer (some ⟨X,0,none⟩))) rfl hrf ?_
 refine tLp 3 ((.pointer (some ⟨X,2,none⟩))) rfl hrf ?_
 refine tL 4 (_) rfl (yieldsIf_load_mid rfl 24 _ rfl X (2) rfl ([.int .i64 (B.hi 2),.int .i64 (B.hi 3),.int .i64 (B.hi 4),.int .i64 (B.hi 5)]) _ (fun W' hW'=>rangeAt_ext HTR.out hW' hX) Tryz.underlying24 rfl top_size_times) hrf ?_
 refine tLp 5 ((.pointer (some ⟨X,0,none⟩))) rfl hrf ?_
 refine tLp 6 ((.int .i64 (k:Int))) rfl hrf ?_
 refine runL (i:=7) rfl rfl (by kernel_rfl) (fun K hK=>?_)
 go_simp
 refine(top_teller _ X k).mono ?_
 rintro e y1 ⟨b1,b2,rfl,hy1,hb1,hb2,d1,d2⟩
 have hr1:=hrf.trans hy1
 have hsz:=hrf.size
 have f1:¬F b1:=fun hh=>by have:=HF.out _ hh;omega
 have f2:¬F b2:=fun hh=>by have:=HF.out _ hh;omega
 have D1:=hD d1
 have D2:=hD d2
 clear d1 d2 hy1 hrf hsz hb1 hb2
 refine hK.out _ _ hr1 (fun hHeld=>?_)
 try simp only[ps]
 clear hK K
 have hmb:=fun W':World=>mem_build (.pointer (some ⟨g,k*89,none⟩)) (.func (.func 128) #[] #[.pointer (some ⟨b1,0,none⟩),.pointer (some ⟨b2,0,none⟩)]) (B.hi 2) (B.hi 3) (B.hi 4) (B.hi 5) W' ⟨_,rfl⟩ ⟨_,_,_,rfl⟩
 refine tL 8 ((.agg #[.pointer (some ⟨g,k*89,none⟩),.int .i64 (B.hi 2),.int .i64 (B.hi 3),.int .i64 (B.hi 4),.int .i64 (B.hi 5),.func (.func 128) #[] #[.pointer (some ⟨b1,0,none⟩),.pointer (some ⟨b2,0,none⟩)]])) rfl (Or.inl ⟨rfl,fun W' _=>by go_simp⟩) hr1 ?_
 clear hmb
 refine runL (i:=9) rfl rfl (by kernel_rfl) (fun K hK=>?_)
 go_simp
 refine(asv (v':=(.func (.func 129) #[.agg #[.pointer (some ⟨g,k*89,none⟩),.int .i64 (B.hi 2),.int .i64 (B.hi 3),.int .i64 (B.hi 4),.int .i64 (B.hi 5),.func (.func 128) #[] #[.pointer (some ⟨b1,0,none⟩),.pointer (some ⟨b2,0,none⟩)]]] #[])) (top_row1 y1 F X g k B (H.out.ext hr1) ho hk b1 b2 H_hs.out) (by rw[H_ha.out];rfl)).mono ?_
 rintro e y2 ⟨rfl,hy2⟩
 have hr2:=hr1.trans hy2
 have c1:=(hy2.cell (p:=⟨b1,0,none⟩) (World.block_lt_of_cell? _ _ D1.out)).trans D1.out
 have c2:=(hy2.cell (p:=⟨b2,0,none⟩) (World.block_lt_of_cell? _ _ D2.out)).trans D2.out
 have C1:=hD c1
 have C2:=hD c2
 clear c1 c2 hy2 D1 D2
 refine hK.out _ _ hr2 (fun hHeld=>?_)
 try simp only[ps]
 clear hK K
 refine tLp 10 ((.func (.func 129) #[.agg #[.pointer (some ⟨g,k*89,none⟩),.int .i64 (B.hi 2),.int .i64 (B.hi 3),.int .i64 (B.hi 4),.int .i64 (B.hi 5),.func (.func 128) #[] #[.pointer (some ⟨b1,0,none⟩),.pointer (some ⟨b2,0,none⟩)]]] #[])) rfl hr2 ?_
 refine wpAnyH_done (by kernel_rfl) ?_ _
 have HR:=hD hr2
 clear hr1 hr2 c17 p25
 have q0:=topfn_eq0
 have q1:=topfn_eq 129
 go_wp2_with fail
 refine(top_forget y2 F X g k B (H.out.ext HR.out) ho hk hn HT.out (fun n hn'=>nL (HF.out n hn') HR.out.size) b1 b2).mono ?_
 rintro e y3 ⟨rfl,hB,hm⟩
 have HB:=hD hB
 have HQ:=hD ((HR.out.mut F).trans hm)
 clear hB hm
 go_wp2_with fail
 go_ret
 exact⟨rfl,HB.out,HQ.out⟩
theorem top_step2_4(w:World)(F:Nat→Prop)(X g k:Nat)(B:Br)(h:BrG w F X g B)(ho:B.ok)(hk:k<B.np)(hn:B.np<1000)(hT:TR (B.hi 2) (B.hi 3) (B.hi 4) (B.hi 5))(hF:∀n,F n→n<w.heap.size)(h25:B.gb k 25=false)(hs:B.gi k 21=2)(ha:act2 B k=4):Calls Tryz.prog 43 #[.pointer (some ⟨X,0,none⟩),.int .i64 k] w (Stepped w F X g (true,tspread B k)):=by
 obtain⟨hX,hg,hne⟩:=h.lt
 obtain⟨cap,c17,hc1,hc2⟩:=h.cell17 ho
 have p25:=(h.cellg (i:=k*89+25) (lt89 hk (by decide))).trans (ho.gb hk 25 rfl)
 rw[h25]at p25
 have HTR:=hD (times_range h ho)
 have H:=hD h
 have HF:=hD hF
 have HT:=hD hT
 have H_hs:=hD hs
 clear hs
 have H_ha:=hD ha
 clear ha
 have hk8:k<1000:=by omega
 clear h hF hT h25
 go_enter Tryz.func43,Tryz.ntmps43
 go_wp2_with fail
 refine beginL (S:=fun W'=>Ext w W') (by kernel_rfl) ?_
 intro wd hrf
 refine tLp 0 ((.pointer (some ⟨g,k*89,none⟩))) rfl hrf ?_
 refine tLp 1 ((.pointer (some ⟨X,0,none⟩))) rfl hrf ?_
 refine tLp 2 ((.pointer (some ⟨X,0,none⟩))) rfl hrf ?_
 refine tLp 3 ((.pointer (some ⟨X,2,none⟩))) rfl hrf ?_
 refine tL 4 (_) rfl (yieldsIf_load_mid rfl 24 _ rfl X (2) rfl ([.int .i64 (B.hi 2),.int .i64 (B.hi 3),.int .i64 (B.hi 4),.int .i64 (B.hi 5)]) _ (fun W' hW'=>rangeAt_ext HTR.out hW' hX) Tryz.underlying24 rfl top_size_times) hrf ?_
 refine tLp 5 ((.pointer (some ⟨X,0,none⟩))) rfl hrf ?_
 refine tLp 6 ((.int .i64 (k:Int))) rfl hrf ?_
 refine runL (i:=7) rfl rfl (by kernel_rfl) (fun K hK=>?_)
 go_simp
 refine(top_teller _ X k).mono ?_
 rintro e y1 ⟨b1,b2,rfl,hy1,hb1,hb2,d1,d2⟩
 have hr1:=hrf.trans hy1
 have hsz:=hrf.size
 have f1:¬F b1:=fun hh=>by have:=HF.out _ hh;omega
 have f2:¬F b2:=fun hh=>by have:=HF.out _ hh;omega
 have D1:=hD d1
 have D2:=hD d2
 clear d1 d2 hy1 hrf hsz hb1 hb2
 refine hK.out _ _ hr1 (fun hHeld=>?_)
 try simp only[ps]
 clear hK K
 have hmb:=fun W':World=>mem_build (.pointer (some ⟨g,k*89,none⟩)) (.func (.func 128) #[] #[.pointer (some ⟨b1,0,none⟩),.pointer (some ⟨b2,0,none⟩)]) (B.hi 2) (B.hi 3) (B.hi 4) (B.hi 5) W' ⟨_,rfl⟩ ⟨_,_,_,rfl⟩
 refine tL 8 ((.agg #[.pointer (some ⟨g,k*89,none⟩),.int .i64 (B.hi 2),.int .i64 (B.hi 3),.int .i64 (B.hi 4),.int .i64 (B.hi 5),.func (.func 128) #[] #[.pointer (some ⟨b1,0,none⟩),.pointer (some ⟨b2,0,none⟩)]])) rfl (Or.inl ⟨rfl,fun W' _=>by go_simp⟩) hr1 ?_
 clear hmb
 refine runL (i:=9) rfl rfl (by kernel_rfl) (fun K hK=>?_)
 go_simp
 refine(asv (v':=(.func (.func 160) #[.agg #[.pointer (some ⟨g,k*89,none⟩),.int .i64 (B.hi 2),.int .i64 (B.hi 3),.int .i64 (B.hi 4),.int .i64 (B.hi 5),.func (.func 128) #[] #[.pointer (some ⟨b1,0,none⟩),.pointer (some ⟨b2,0,none⟩)]]] #[])) (top_row2 y1 F X g k B (H.out.ext hr1) ho hk hn HT.out (fun n hn'=>nL (HF.out n hn') hr1.size) b1 b2 H_hs.out) (by rw[H_ha.out];rfl)).mono ?_
 rintro e y2 ⟨rfl,hy2⟩
 have hr2:=hr1.trans hy2
 have c1:=(hy2.cell (p:=⟨b1,0,none⟩) (World.block_lt_of_cell? _ _ D1.out)).trans D1.out
 have c2:=(hy2.cell (p:=⟨b2,0,none⟩) (World.block_lt_of_cell? _ _ D2.out)).trans D2.out
 have C1:=hD c1
 have C2:=hD c2
 clear c1 c2 hy2 D1 D2
 refine hK.out _ _ hr2 (fun hHeld=>?_)
 try simp only[ps]
 clear hK K
 refine tLp 10 ((.func (.func 160) #[.agg #[.pointer (some ⟨g,k*89,none⟩),.int .i64 (B.hi 2),.int .i64 (B.hi 3),.int .i64 (B.hi 4),.int .i64 (B.hi 5),.func (.func 128) #[] #[.pointer (some ⟨b1,0,none⟩),.pointer (some ⟨b2,0,none⟩)]]] #[])) rfl hr2 ?_
 refine wpAnyH_done (by kernel_rfl) ?_ _
 have HR:=hD hr2
 clear hr1 hr2 c17 p25
 have q0:=topfn_eq0
 have q1:=topfn_eq 160
 go_wp2_with fail
 refine(top_spread y2 F X g k B (H.out.ext HR.out) ho hk hn HT.out (fun n hn'=>nL (HF.out n hn') HR.out.size) b1 b2).mono ?_
 rintro e y3 ⟨rfl,hB,hm⟩
 have HB:=hD hB
 have HQ:=hD ((HR.out.mut F).trans hm)
 clear hB hm
 go_wp2_with fail
 go_ret
 exact⟨rfl,HB.out,HQ.out⟩
def topN(B:Br)(k:Nat):Bool × Br :=
 if B.gi k 21=0 then(if B.gb k 28=true then(true,tforget B k)else(false,B))else
 if B.gi k 21=1 then(if act1 B k=1 then(true,tactiv B k)else if act1 B k=2 then(true,tleave B k)else if act1 B k=3 then(true,tforget B k)else(false,B))else
 if B.gi k 21=2 then(if act2 B k=1 then(true,tforget B k)else if act2 B k=2 then(true,tpass (tbegin B k) k)else if act2 B k=3 then(true,tpass B k)else if act2 B k=4 then(true,tspread B k)else if act2 B k=5 then(true,tack B k)else(false,B))else(false,B)
theorem act1_cases(B:Br)(k:Nat):act1 B k=0∨act1 B k=1∨act1 B k=2∨act1 B k=3:=by
 unfold act1 learnSel
 split
 ·simp
 ·split
  ·simp
  ·split<;>simp
theorem act2_cases(B:Br)(k:Nat):act2 B k=0∨act2 B k=1∨act2 B k=2∨act2 B k=3∨act2 B k=4∨act2 B k=5:=by
 unfold act2 actSel
 repeat' split
 all_goals simp
theorem top_stepN(w:World)(F:Nat→Prop)(X g k:Nat)(B:Br)(h:BrG w F X g B)(ho:B.ok)(hk:k<B.np)(hn:B.np<1000)(hT:TR (B.hi 2) (B.hi 3) (B.hi 4) (B.hi 5))(hF:∀n,F n→n<w.heap.size)(h25:B.gb k 25=false):Calls Tryz.prog 43 #[.pointer (some ⟨X,0,none⟩),.int .i64 k] w (Stepped w F X g (topN B k)):=by
 unfold topN
 by_cases h0:B.gi k 21=0
 ·rw[if_pos h0]
  cases hl:B.gb k 28
  ·exact top_step0b w F X g k B h ho hk hn hT hF h25 h0 hl
  ·exact top_step0a w F X g k B h ho hk hn hT hF h25 h0 hl
 rw[if_neg h0]
 by_cases h1:B.gi k 21=1
 ·rw[if_pos h1]
  rcases act1_cases B k with ha|ha|ha|ha
  ·rw[if_neg (by omega),if_neg (by omega),if_neg (by omega)];exact top_step1_0 w F X g k B h ho hk hn hT hF h25 h1 ha
  ·rw[if_pos ha];exact top_step1_1 w F X g k B h ho hk hn hT hF h25 h1 ha
  ·rw[if_neg (by omega),if_pos ha];exact top_step1_2 w F X g k B h ho hk hn hT hF h25 h1 ha
  ·rw[if_neg (by omega),if_neg (by omega),if_pos ha];exact top_step1_3 w F X g k B h ho hk hn hT hF h25 h1 ha
 rw[if_neg h1]
 by_cases h2:B.gi k 21=2
 ·rw[if_pos h2]
  rcases act2_cases B k with ha|ha|ha|ha|ha|ha
  ·rw[if_neg (by omega),if_neg (by omega),if_neg (by omega),if_neg (by omega),if_neg (by omega)];exact top_step2_0 w F X g k B h ho hk hn hT hF h25 h2 ha
  ·rw[if_pos ha];exact top_step2_1 w F X g k B h ho hk hn hT hF h25 h2 ha
  ·rw[if_neg (by omega),if_pos ha];exact top_step2_2 w F X g k B h ho hk hn hT hF h25 h2 ha
  ·rw[if_neg (by omega),if_neg (by omega),if_pos ha];exact top_step2_3 w F X g k B h ho hk hn hT hF h25 h2 ha
  ·rw[if_neg (by omega),if_neg (by omega),if_neg (by omega),if_pos ha];exact top_step2_4 w F X g k B h ho hk hn hT hF h25 h2 ha
  ·rw[if_neg (by omega),if_neg (by omega),if_neg (by omega),if_neg (by omega),if_pos ha];exact top_step2_5 w F X g k B h ho hk hn hT hF h25 h2 ha
 rw[if_neg h2]
 exact top_step9 w F X g k B h ho hk hn hT hF h25 h0 h1 h2
theorem top_clip(ao:Option Addr)(n cap:Nat)(hc:n≤cap)(hm:cap≤9223372036854775807)(h0:ao=none→n=0∧cap=0)(w:World):Calls Tryz.prog 57 #[.slice ao n cap] w fun e w'=>e=.returned (.slice ao n n)∧w=w':=by
 cases ao with
 | none =>
  obtain⟨rfl,rfl⟩:=h0 rfl
  go_enter Tryz.func57,Tryz.ntmps57
  go_wp2
  go_ret
  simp
 | some a =>
  clear h0
  go_enter Tryz.func57,Tryz.ntmps57
  go_wp2
  go_ret
  simp
def Br.flush(B:Br)(k:Nat):Br:={ B with nf:=B.nf+1,fl:=B.fl++[.int .i64 k] }
theorem BrG.flushed{w w2:World}{F:Nat→Prop}{X g k:Nat}{B:Br}(h:BrG w F X g B)(hd:B.hd.length=17)(hs:w.heap.size≤w2.heap.size)(hb:∀n,n<w.heap.size→w2.heap[n]?=w.heap[n]?){v':Value}(hr:w2.ownsRow w.heap.size 3 1 v' (B.nf+1) (B.fl++[.int .i64 k])):
    BrG (w2.setCell ⟨X,19,none⟩ v') (fun n=>F n∨(w.heap.size≤n∧n<w2.heap.size)) X g (B.flush k):=by
 obtain⟨h1,h2,cap,cur,s2,s3,a,b,c,d,e,f,p,q,r,s⟩:=h
 have lX:=heap_lt a
 have lg:=heap_lt b
 have hXg:X≠g:=by
  intro e0
  subst e0
  rw[a]at b
  cases b
 have aX:=(hb X lX).trans a
 have bg:=(hb g lg).trans b
 have own2:(w2.setCell ⟨X,19,none⟩ v').ownsRow 0 71 18 s2 B.no B.os:=own_set (owns_keep p (fun q1 _ hq=>hb q1 hq)) aX (by decide) v'
 have own3:(w2.setCell ⟨X,19,none⟩ v').ownsRow 0 3 1 v' (B.nf+1) (B.fl++[.int .i64 k]):=by
  obtain⟨z1,z2⟩:=own_set hr aX (by decide) v'
  refine⟨z1,?_⟩
  rcases z2 with z2|⟨g3,c3,cu3,e1,e2,e3⟩
  ·exact .inl z2
  ·exact .inr ⟨g3,c3,cu3,e1,Nat.zero_le _,e3⟩
 refine⟨.inl h1,.inl h2,cap,cur,s2,v',?_,(heap_setCell_other _ _ _ _ (Ne.symm hXg)).trans bg,c,d,e,f,own2,own3,(fun m hm=>.inl (r m hm)),fun m hm=>?_⟩
 ·rw[heap_setCell_same _ _ _ _ _ _ aX]
  congr 2
  apply Array.ext'
  simp[Br.flush,List.set_append,hd]
 ·have:=hr.lt m hm
  exact .inr this
theorem top_flush(w:World)(F:Nat→Prop)(X g k:Nat)(B:Br)(h:BrG w F X g B)(ho:B.ok)(hk:k<B.np)(hn:B.np<1000)(hT:TR (B.hi 2) (B.hi 3) (B.hi 4) (B.hi 5))(hF:∀n,F n→n<w.heap.size)(h25:B.gb k 25=true)(hnf:B.nf≤1000000000):Calls Tryz.prog 43 #[.pointer (some ⟨X,0,none⟩),.int .i64 k] w fun e w'=>e=.returned (.bool true)∧BrG w' (fun n=>F n∨(w.heap.size≤n∧n<w'.heap.size)) X g ((B.flush k).setp k 25 (.bool false))∧Mut F w w':=by
 obtain⟨hX,hg,hne⟩:=h.lt
 obtain⟨cap,c17,hc1,hc2⟩:=h.cell17 ho
 have p25:=(h.cellg (i:=k*89+25) (lt89 hk (by decide))).trans (ho.gb hk 25 rfl)
 rw[h25]at p25
 have H:=hD h
 have hF1:=h.F1
 have hF2:=h.F2
 obtain⟨-,-,cap3,cur,s2,s3,aX,bg,-,-,-,-,-,q3,-,-⟩:=h
 have c19:w.cell? ⟨X,19,none⟩=some s3:=by
  rw[cell_of_row _ _ _ _ _ _ aX]
  simp[ho.hd.1,HL]
 have hfX:w.frozen? ⟨X,19,none⟩=false:=frozen_of_row _ _ _ _ _ aX
 have hcells:∃ao cp,s3=.slice ao B.nf cp∧B.nf≤cp∧cp≤9223372036854775807∧(ao=none→B.nf=0∧cp=0)∧(∀b,ao=some b→b.block<w.heap.size∧∀j u,B.fl[j]?=some u→w.cell? (b.add j)=some u):=by
  obtain⟨hl,⟨rfl,hz⟩|⟨g3,cp,cu,rfl,-,hg3,h1,h2,h3,h4⟩⟩:=q3
  ·exact⟨none,0,by rw[hz],by omega,by omega,fun _=>⟨hz,rfl⟩,fun b hb=>by cases hb⟩
  ·unfold maxLen at h2
   refine⟨some ⟨g3,0,none⟩,cp,rfl,h1,by omega,(fun hh=>by cases hh),fun b hb=>?_⟩
   cases hb
   refine⟨heap_lt hg3,fun j u hu=>?_⟩
   rw[Addr.add_lit,Nat.zero_add,cell_of_row _ _ _ _ _ _ hg3]
   rw[←h4,List.getElem?_take]at hu
   split at hu
   ·simpa using hu
   ·cases hu
 obtain⟨ao,cp,rfl,hcp,hcm,h0,hcl⟩:=hcells
 obtain⟨i3,hi3,hz3,hs3,hb3⟩:=info_of info_int
 have hlen:B.fl.length=B.nf*1:=by
  have:=ho.fl.1
  simpa using this
 have hk8:k<1000:=by omega
 have HCL:=hD hcl
 have H0:=hD h0
 have HI:=hD (And.intro hi3 (And.intro hz3 (And.intro hs3 hb3)))
 have HLEN:=hD hlen
 have HHD:=hD (show B.hd.length=17 from ho.hd.1)
 have P25:=hD p25
 have HAX:=hD aX
 clear aX bg q3 hcl h0 hi3 hz3 hs3 hb3 hlen hF hT
 go_enter Tryz.func43,Tryz.ntmps43
 go_wp2_with fail
 refine(top_clip ao B.nf cp hcp hcm H0.out _).mono ?_
 rintro e w' ⟨rfl,rfl⟩
 go_wp2_with (at_builtin;refine wpList_append_grows _ rfl _ _ 33 rfl 3 i3 (.int .i64 0) 1 8 Tryz.underlying33 HI.out.1 HI.out.2.1 HI.out.2.2.1 HI.out.2.2.2 rfl (by decide) ao B.nf B.nf B.fl rfl (fun hh=>⟨(H0.out hh).1,(H0.out hh).1⟩) HLEN.out ?olds ⟨w.heap.size,0,none⟩ 1 1 [.int .i64 k] rfl rfl ?news (by simp;rfl) (by omega) (by unfold maxLen;omega) (by omega) ?fin)
 case olds =>
  intro b hb j u hu
  obtain⟨l1,l2⟩:=HCL.out b hb
  have:=l2 j u hu
  have hbk:(b.add j).block=b.block:=by unfold Addr.add;split<;>rfl
  rw[(((Ext.refl w).alloc _).cell (p:=b.add j) (by rw[hbk];exact l1))]
  exact this
 case news =>
  intro j u hu
  exact World.news_of_block (heap_alloc_new w _) j u (by simpa using hu)
 case fin =>
  intro v' w2 hr hgb
  obtain⟨av,cv,rfl⟩:=own_form hr
  have hsz:w.heap.size+1≤w2.heap.size:=by
   have:=hgb.size
   simpa using this
  have hbl:∀n,n<w.heap.size→w2.heap[n]?=w.heap[n]?:=fun n hn'=>(hgb.block n (by simp;omega) (by simp)).trans (heap_alloc_old _ _ hn')
  have hr0:w2.ownsRow w.heap.size 3 1 (.slice av (B.nf+1) cv) (B.nf+1) (B.fl++[.int .i64 k]):=by
   obtain⟨z1,z2⟩:=hr
   refine⟨z1,?_⟩
   rcases z2 with z2|⟨g3,c3,cu3,e1,e2,e3⟩
   ·exact .inl z2
   ·exact .inr ⟨g3,c3,cu3,e1,(by first|omega|(rw[World.size_alloc]at e2;omega)),e3⟩
  have HBf:=hD (H.out.flushed HHD.out (by omega) hbl hr0)
  have hmut:Mut F w w2:=⟨hgb.os,hgb.tape,hgb.output,by omega,fun n hn' _=>hbl n hn'⟩
  have HMU:=hD (hmut.setCell (p:=⟨X,19,none⟩) (.inl hF1) (.slice av (B.nf+1) cv))
  have c19':w2.cell? ⟨X,19,none⟩=some (.slice ao B.nf cp):=(World.cell?_of_block (hbl X hX)).trans c19
  have f19':w2.frozen? ⟨X,19,none⟩=false:=frozen_of_row _ _ _ _ _ ((hbl X hX).trans HAX.out)
  have q25:=(HBf.out.cellg (i:=k*89+25) (lt89 hk (by decide))).trans ((ho.gb hk 25 rfl))
  have qf:=HBf.out.frozen
  clear hr hr0 hmut c17 c19 hfX
  go_wp2_with fail
  go_ret
  have hfin:=HBf.out.setp (k:=k) (j:=25) hk (by decide) (.bool false)
  exact⟨rfl,hfin.mono (fun n hn=>hn.imp id (fun h2=>⟨h2.1,by simp only[World.size_setCell];exact h2.2⟩)),HMU.out.setCell (.inl hF2) _⟩
def topF(B:Br)(k:Nat):Bool × Br:=if B.gb k 25=true then(true,(B.flush k).setp k 25 (.bool false))else topN B k
theorem top_stepW(w:World)(N:Nat→Prop)(X g k:Nat)(B:Br)(h:BrG w (fun n=>N n∧n<w.heap.size) X g B)(ho:B.ok)(hk:k<B.np)(hn:B.np<1000)(hQ:∀n,w.heap.size≤n→N n)(hT:TR (B.hi 2) (B.hi 3) (B.hi 4) (B.hi 5))(hnf:B.nf≤1000000000):
    Calls Tryz.prog 43 #[.pointer (some ⟨X,0,none⟩),.int .i64 k] w fun e w'=>e=.returned (.bool (topF B k).1)∧BrG w' (fun n=>N n∧n<w'.heap.size) X g (topF B k).2∧Mut (fun n=>N n) w w':=by
 have hX:=h.F1
 unfold topF
 cases h25:B.gb k 25
 ·rw[if_neg (by simp)]
  refine(top_stepN w _ X g k B h ho hk hn hT (fun n hn'=>hn'.2) h25).mono ?_
  rintro e w' ⟨he,hB,hm⟩
  exact⟨he,hB.mono (fun n hn'=>⟨hn'.1,nL hn'.2 hm.size⟩),hm.mono (fun n _ hn'=>hn'.1)⟩
 ·rw[if_pos rfl]
  refine(top_flush w _ X g k B h ho hk hn hT (fun n hn'=>hn'.2) h25 hnf).mono ?_
  rintro e w' ⟨he,hB,hm⟩
  refine⟨he,hB.mono (fun n hn'=>?_),hm.mono (fun n _ hn'=>hn'.1)⟩
  have:=hm.size
  rcases hn' with hn'|hn'
  ·exact⟨hn'.1,by omega⟩
  ·exact⟨hQ n hn'.1,hn'.2⟩
section
variable {B:Br} {k:Nat}
end
def txKind(sr:Bool)(r:Int):Int:=if sr=true then 2 else if r=3 then 1 else 0
def txTells(sr:Bool)(r:Int):Bool:=if sr=true then r != 0 else if r=3 then true else r == 4
theorem tx_kind(g o:Nat)(sr:Bool)(r:Int)(w:World)(h45:w.cell? ⟨g,o+45,none⟩=some (.bool sr))(h87:w.cell? ⟨g,o+87,none⟩=some (.int .i64 r)):
    Calls Tryz.prog 60 #[.pointer (some ⟨g,o,none⟩)] w fun e w'=>e=.returned (.tuple #[.int .i64 (txKind sr r),.bool (txTells sr r)])∧Ext w w':=by
 cases sr
 ·by_cases h3:r=3
  ·subst h3
   go_enter Tryz.func60,Tryz.ntmps60
   go_wp2_with fail
   go_ret2
   exact⟨rfl,Ext.refl w⟩
  ·have hb:(r == 3)=false:=by simpa using h3
   have e1:txKind false r=0:=by simp[txKind,h3]
   have e2:txTells false r=(r == 4):=by simp[txTells,h3]
   rw[e1,e2]
   clear e1 e2
   go_enter Tryz.func60,Tryz.ntmps60
   go_wp2_with fail
   go_quiet (fail)
   go_wp2_with fail
   go_ret2
   exact⟨rfl,(Ext.refl w).drewN _⟩
 ·have e1:txKind true r=2:=by simp[txKind]
  have e2:txTells true r=(r != 0):=by simp[txTells]
  rw[e1,e2]
  clear e1 e2
  go_enter Tryz.func60,Tryz.ntmps60
  go_wp2_with fail
  go_quiet (fail)
  go_wp2_with fail
  go_ret2
  exact⟨rfl,(Ext.refl w).drewN _⟩
theorem range_cons{w:World}{b o:Nat}{v:Value}{l:List Value}(h0:w.cell? ⟨b,o,none⟩=some v)(h:w.rangeAt b (o+1) l):w.rangeAt b o (v :: l):=fun j u hu=>by
 cases j with
 | zero =>
  obtain rfl:v=u:=by simpa using hu
  exact h0
 | succ j =>
  rw[show o+(j+1)=o+1+j by omega]
  exact h j u (by simpa using hu)
theorem range_nil{w:World}{b o:Nat}:w.rangeAt b o []:=fun j u hu=>by simp at hu
def msgA(kd:Int)(ch ak pr ag ln fw:Bool)(ro:Int)(a:Int)(b:Int)(c:Int)(d:Int)(e:Int)(f g h i:Int):Array Value :=
 #[.int .i64 kd,.bool ch,.bool ak,.bool pr,.bool ag,.bool ln,.bool fw,.int .i64 ro,.int .u64 a,.int .u32 b,.int .u64 c,.int .u16 d,.int .u16 e,.int .i64 f,.int .i64 g,.int .i64 h,.int .i64 i]
def txMsg(B:Br)(k:Nat)(kind:Int):Array Value :=
 if kind=0 then msgA 0 (B.gi k 13 != 0) (B.gb k 48) false false false false 4 (B.gi k 73) (B.gi k 74) (B.gi k 75) (B.gi k 76) 0 (B.gi k 82) (B.gi k 83) (B.gi k 84) (B.gi k 85)
 else if kind=1 then msgA 1 false false false false false false 0 0 0 0 0 0 0 0 0 0
 else if kind=2 then msgA 2 (B.gi k 13 != 0) false (B.gb k 34) (B.gb k 22) (B.gb k 29) (B.gb k 27) (B.gi k 87) (B.gi k 73) (B.gi k 74) (B.gi k 75) (B.gi k 76) 0 (B.gi k 82) (B.gi k 83) (B.gi k 84) (B.gi k 85)
 else MZ
theorem msg_b0(kd:Int)(ch:Bool)(a b c d e f g h i:Int):Tryz.prog.built 46 [(0,.int .i64 kd),(1,.bool ch),(8,.agg [Value.int .u64 a,.int .u32 b,.int .u64 c,.int .u16 d,.int .u16 e].toArray),(9,.agg [Value.int .i64 f,.int .i64 g,.int .i64 h,.int .i64 i].toArray)]=some (msgA kd ch false false false false false 0 a b c d e f g h i):=by kernel_rfl
theorem msg_b1:Tryz.prog.built 46 [(0,.int .i64 1)]=some (msgA 1 false false false false false false 0 0 0 0 0 0 0 0 0 0):=by kernel_rfl
theorem msg_b2:Tryz.prog.built 46 []=some MZ:=by kernel_rfl
theorem msg_one(kd:Int)(ch ak pr ag ln fw:Bool)(ro a b c d e f g h i:Int):(msgA kd ch ak pr ag ln fw ro a b c d e f g h i).all (·.oneCell')=true:=by rw[←Array.all_toList];rfl
theorem mz_one:MZ.all (·.oneCell')=true:=by rw[←Array.all_toList];rfl
theorem txMsg_size(B:Br)(k:Nat)(kind:Int):(txMsg B k kind).size=17:=by
 unfold txMsg
 split
 ·rfl
 split
 ·rfl
 split<;>rfl
theorem txMsg_one(B:Br)(k:Nat)(kind:Int):(txMsg B k kind).all (·.oneCell')=true:=by
 unfold txMsg
 split
 ·exact msg_one ..
 split
 ·exact msg_one ..
 split
 ·exact msg_one ..
 ·exact mz_one
theorem size_vec:(Tryz.prog.info? 30).map (·.size)=some 5:=by kernel_rfl
theorem tx_msg(c:Array Value)(B:Br)(w:World)(hb:BrC w c B)(ho:B.ok)(k:Nat)(hk:k<B.np)(kind:Int):Calls Tryz.prog 133 #[.agg c,.int .i64 k,.int .i64 kind] w fun e w'=>e=.returned (.agg (txMsg B k kind))∧Ext w w':=by
 obtain⟨s1,s2,s3,hz,hhd,c17,c18,c19,r1,-,-⟩:=hb.facts ho.hd.1
 obtain⟨a1,k1,rfl,m1,hrow⟩:=r1.form
 obtain⟨bb,off,rfl,hbl,hlc,hcm,hc⟩:=hrow (by omega)
 have HC:=hD hc
 have HBL:=hD hbl
 clear hz hhd hb r1 hrow c18 c19 hc hbl
 have hzm:=zero_msg
 go_enter Tryz.func133,Tryz.ntmps133
 go_wp2_with fail
 have hx0:Ext w ((w.alloc (.cells c 35)).alloc (.cells MZ 46)):=((Ext.refl w).alloc _).alloc _
 have hr6:((w.alloc (.cells c 35)).alloc (.cells MZ 46)).heap[w.heap.size+1]?=some (.cells MZ 46 (0,0)):=heap_alloc2_new _ _ _
 have hwl:w.heap.size+1<((w.alloc (.cells c 35)).alloc (.cells MZ 46)).heap.size:=heap_lt hr6
 generalize ((w.alloc (.cells c 35)).alloc (.cells MZ 46))=W0 at *
 obtain⟨t6,h6⟩:∃n,w.heap.size+1=n:=⟨_,rfl⟩
 rw[h6]at hr6 hwl ⊢
 have hw6:w.heap.size≤t6:=by omega
 clear h6
 have hL:=rangeAt_ext HC.out hx0 HBL.out
 have HBW:=hD (nL HBL.out hx0.size)
 have pr:=port_range hL k
 have q13:W0.cell? ⟨bb,off+k*89+13,none⟩=some _:=pr 13 _ ((port_at (B:=B) (k:=k) (j:=13) (by decide)).trans (ho.gi hk 13 rfl))
 have q48:W0.cell? ⟨bb,off+k*89+48,none⟩=some _:=pr 48 _ ((port_at (B:=B) (k:=k) (j:=48) (by decide)).trans (ho.gb hk 48 rfl))
 have q34:W0.cell? ⟨bb,off+k*89+34,none⟩=some _:=pr 34 _ ((port_at (B:=B) (k:=k) (j:=34) (by decide)).trans (ho.gb hk 34 rfl))
 have q22:W0.cell? ⟨bb,off+k*89+22,none⟩=some _:=pr 22 _ ((port_at (B:=B) (k:=k) (j:=22) (by decide)).trans (ho.gb hk 22 rfl))
 have q29:W0.cell? ⟨bb,off+k*89+29,none⟩=some _:=pr 29 _ ((port_at (B:=B) (k:=k) (j:=29) (by decide)).trans (ho.gb hk 29 rfl))
 have q27:W0.cell? ⟨bb,off+k*89+27,none⟩=some _:=pr 27 _ ((port_at (B:=B) (k:=k) (j:=27) (by decide)).trans (ho.gb hk 27 rfl))
 have q87:W0.cell? ⟨bb,off+k*89+87,none⟩=some _:=pr 87 _ ((port_at (B:=B) (k:=k) (j:=87) (by decide)).trans (ho.gi hk 87 rfl))
 have q73:W0.cell? ⟨bb,off+k*89+73,none⟩=some _:=pr 73 _ ((port_at (B:=B) (k:=k) (j:=73) (by decide)).trans (ho.gi hk 73 rfl))
 have q74:W0.cell? ⟨bb,off+k*89+74,none⟩=some _:=pr 74 _ ((port_at (B:=B) (k:=k) (j:=74) (by decide)).trans (ho.gi hk 74 rfl))
 have q75:W0.cell? ⟨bb,off+k*89+75,none⟩=some _:=pr 75 _ ((port_at (B:=B) (k:=k) (j:=75) (by decide)).trans (ho.gi hk 75 rfl))
 have q76:W0.cell? ⟨bb,off+k*89+76,none⟩=some _:=pr 76 _ ((port_at (B:=B) (k:=k) (j:=76) (by decide)).trans (ho.gi hk 76 rfl))
 have q77:W0.cell? ⟨bb,off+k*89+77,none⟩=some _:=pr 77 _ ((port_at (B:=B) (k:=k) (j:=77) (by decide)).trans (ho.gi hk 77 rfl))
 have q82:W0.cell? ⟨bb,off+k*89+82,none⟩=some _:=pr 82 _ ((port_at (B:=B) (k:=k) (j:=82) (by decide)).trans (ho.gi hk 82 rfl))
 have q83:W0.cell? ⟨bb,off+k*89+83,none⟩=some _:=pr 83 _ ((port_at (B:=B) (k:=k) (j:=83) (by decide)).trans (ho.gi hk 83 rfl))
 have q84:W0.cell? ⟨bb,off+k*89+84,none⟩=some _:=pr 84 _ ((port_at (B:=B) (k:=k) (j:=84) (by decide)).trans (ho.gi hk 84 rfl))
 have q85:W0.cell? ⟨bb,off+k*89+85,none⟩=some _:=pr 85 _ ((port_at (B:=B) (k:=k) (j:=85) (by decide)).trans (ho.gi hk 85 rfl))
 have RV:=hD (show W0.rangeAt bb (off+k*89+73) [Value.int .u64 (B.gi k 73),.int .u32 (B.gi k 74),.int .u64 (B.gi k 75),.int .u16 (B.gi k 76),.int .u16 (B.gi k 77)]from range_cons q73 (range_cons q74 (range_cons q75 (range_cons q76 (range_cons q77 range_nil)))))
 have RT:=hD (show W0.rangeAt bb (off+k*89+82) [Value.int .i64 (B.gi k 82),.int .i64 (B.gi k 83),.int .i64 (B.gi k 84),.int .i64 (B.gi k 85)]from range_cons q82 (range_cons q83 (range_cons q84 (range_cons q85 range_nil))))
 clear pr hL c17 q73 q74 q75 q76 q77 q82 q83 q84 q85
 refine beginL (S:=fun W'=>Ext W0 W') (by kernel_rfl) ?_
 intro wd hqx
 have hq0:Ext W0 wd:=hqx
 refine tLp 0 ((.int .i64 kind)) rfl hq0 ?_
 refine tLp 1 ((.pointer (some ⟨bb,off+k*89,none⟩))) rfl hq0 ?_
 refine tLp 2 ((.pointer (some ⟨bb,off+k*89,none⟩))) rfl hq0 ?_
 refine tLp 3 ((.pointer (some ⟨bb,off+k*89+6,none⟩))) rfl hq0 ?_
 refine tLp 4 ((.pointer (some ⟨bb,off+k*89+13,none⟩))) rfl hq0 ?_
 refine tL 5 (_) rfl (yieldsIf_cell rfl 3 _ rfl ⟨bb,off+k*89+13,none⟩ rfl (.int .i64 (B.gi k 13)) _ (fun W' hW'=>(hW'.cell (p:=⟨bb,off+k*89+13,none⟩) HBW.out).trans q13) Tryz.underlying3 rfl) hq0 ?_
 refine tL 6 ((.bool (B.gi k 13 != 0))) rfl (Or.inl ⟨rfl,fun W' _=>by go_simp⟩) hq0 ?_
 refine tLp 7 ((.pointer (some ⟨bb,off+k*89,none⟩))) rfl hq0 ?_
 refine tLp 8 ((.pointer (some ⟨bb,off+k*89,none⟩))) rfl hq0 ?_
 refine tLp 9 ((.pointer (some ⟨bb,off+k*89+73,none⟩))) rfl hq0 ?_
 refine tL 10 (_) rfl (yieldsIf_load_mid rfl 30 _ rfl bb (off+k*89+73) rfl ([Value.int .u64 (B.gi k 73),.int .u32 (B.gi k 74),.int .u64 (B.gi k 75),.int .u16 (B.gi k 76),.int .u16 (B.gi k 77)]) _ (fun W' hW'=>rangeAt_ext RV.out hW' HBW.out) Tryz.underlying30 rfl size_vec) hq0 ?_
 refine tLp 11 ((.pointer (some ⟨bb,off+k*89,none⟩))) rfl hq0 ?_
 refine tLp 12 ((.pointer (some ⟨bb,off+k*89,none⟩))) rfl hq0 ?_
 refine tLp 13 ((.pointer (some ⟨bb,off+k*89+82,none⟩))) rfl hq0 ?_
 refine tL 14 (_) rfl (yieldsIf_load_mid rfl 24 _ rfl bb (off+k*89+82) rfl ([Value.int .i64 (B.gi k 82),.int .i64 (B.gi k 83),.int .i64 (B.gi k 84),.int .i64 (B.gi k 85)]) _ (fun W' hW'=>rangeAt_ext RT.out hW' HBW.out) Tryz.underlying24 rfl size_times) hq0 ?_
 refine tL 15 ((.agg (msgA kind (B.gi k 13 != 0) false false false false false 0 (B.gi k 73) (B.gi k 74) (B.gi k 75) (B.gi k 76) (B.gi k 77) (B.gi k 82) (B.gi k 83) (B.gi k 84) (B.gi k 85)))) rfl (yieldsIf_build rfl 46 _ rfl [(0,.int .i64 kind),(1,.bool (B.gi k 13 != 0)),(8,.agg [Value.int .u64 (B.gi k 73),.int .u32 (B.gi k 74),.int .u64 (B.gi k 75),.int .u16 (B.gi k 76),.int .u16 (B.gi k 77)].toArray),(9,.agg [Value.int .i64 (B.gi k 82),.int .i64 (B.gi k 83),.int .i64 (B.gi k 84),.int .i64 (B.gi k 85)].toArray)] rfl (msgA kind (B.gi k 13 != 0) false false false false false 0 (B.gi k 73) (B.gi k 74) (B.gi k 75) (B.gi k 76) (B.gi k 77) (B.gi k 82) (B.gi k 83) (B.gi k 84) (B.gi k 85)) (msg_b0 _ _ _ _ _ _ _ _ _ _ _)) hq0 ?_
 refine runL (i:=16) rfl rfl (by kernel_rfl) (fun K hK=>?_)
 refine wp_alloc_zero 46 rfl MZ (zero_msg _) ?_
 have hq1:=hq0.alloc (.cells MZ 46)
 refine hK.out _ _ hq1 (fun hHeld=>?_)
 try simp only[ps]
 clear hK K hHeld
 refine runL (i:=17) rfl rfl (by kernel_rfl) (fun K hK=>?_)
 refine wp_store_row 46 _ _ rfl wd.heap.size 46 MZ (msgA kind (B.gi k 13 != 0) false false false false false 0 (B.gi k 73) (B.gi k 74) (B.gi k 75) (B.gi k 76) (B.gi k 77) (B.gi k 82) (B.gi k 83) (B.gi k 84) (B.gi k 85)) rfl rfl (heap_alloc_new _ _) size_msg rfl (msg_one _ _ _ _ _ _ _ _ _ _ _ _ _ _ _ _ _) ?_
 rw[World.setRow_alloc_new]
 have hq2:=hq0.alloc (.cells (msgA kind (B.gi k 13 != 0) false false false false false 0 (B.gi k 73) (B.gi k 74) (B.gi k 75) (B.gi k 76) (B.gi k 77) (B.gi k 82) (B.gi k 83) (B.gi k 84) (B.gi k 85)) 46)
 refine hK.out _ _ hq2 (fun hHeld=>?_)
 try simp only[ps]
 clear hK K hHeld
 refine wpAnyH_done (by kernel_rfl) ?_ _
 have hr8:(wd.alloc (.cells (msgA kind (B.gi k 13 != 0) false false false false false 0 (B.gi k 73) (B.gi k 74) (B.gi k 75) (B.gi k 76) (B.gi k 77) (B.gi k 82) (B.gi k 83) (B.gi k 84) (B.gi k 85)) 46)).heap[wd.heap.size]?=some (.cells (msgA kind (B.gi k 13 != 0) false false false false false 0 (B.gi k 73) (B.gi k 74) (B.gi k 75) (B.gi k 76) (B.gi k 77) (B.gi k 82) (B.gi k 83) (B.gi k 84) (B.gi k 85)) 46 (0,0)):=heap_alloc_new _ _
 have hE8:Ext W0 (wd.alloc (.cells (msgA kind (B.gi k 13 != 0) false false false false false 0 (B.gi k 73) (B.gi k 74) (B.gi k 75) (B.gi k 76) (B.gi k 77) (B.gi k 82) (B.gi k 83) (B.gi k 84) (B.gi k 85)) 46)):=hq0.alloc _
 have hl8:W0.heap.size≤wd.heap.size:=hq0.size
 clear hqx hq0 hq1 hq2
 generalize wd.alloc (.cells (msgA kind (B.gi k 13 != 0) false false false false false 0 (B.gi k 73) (B.gi k 74) (B.gi k 75) (B.gi k 76) (B.gi k 77) (B.gi k 82) (B.gi k 83) (B.gi k 84) (B.gi k 85)) 46)=u1 at *
 obtain⟨h8,hh8⟩:∃n,wd.heap.size=n:=⟨_,rfl⟩
 rw[hh8]at hr8 hl8 ⊢
 clear hh8 wd
 have hr6:=(hE8.block _ hwl).trans hr6
 have HR6:=hD hr6
 have HR8:=hD hr8
 have hf8:∀j,u1.frozen? ⟨h8,j,none⟩=false:=fun j=>frozen_of_row _ _ _ _ _ hr8
 have c8:∀j,u1.cell? ⟨h8,j,none⟩=(msgA kind (B.gi k 13 != 0) false false false false false 0 (B.gi k 73) (B.gi k 74) (B.gi k 75) (B.gi k 76) (B.gi k 77) (B.gi k 82) (B.gi k 83) (B.gi k 84) (B.gi k 85))[j]?:=fun j=>cell_of_row _ _ _ _ _ _ hr8
 have hne:h8≠t6:=by omega
 have HEX:=hD (hx0.trans hE8)
 have p13:=(hE8.cell (p:=⟨bb,off+k*89+13,none⟩) HBW.out).trans q13
 have p48:=(hE8.cell (p:=⟨bb,off+k*89+48,none⟩) HBW.out).trans q48
 have p34:=(hE8.cell (p:=⟨bb,off+k*89+34,none⟩) HBW.out).trans q34
 have p22:=(hE8.cell (p:=⟨bb,off+k*89+22,none⟩) HBW.out).trans q22
 have p29:=(hE8.cell (p:=⟨bb,off+k*89+29,none⟩) HBW.out).trans q29
 have p27:=(hE8.cell (p:=⟨bb,off+k*89+27,none⟩) HBW.out).trans q27
 have p87:=(hE8.cell (p:=⟨bb,off+k*89+87,none⟩) HBW.out).trans q87
 clear q13 q48 q34 q22 q29 q27 q87
 have HBU:=hD (nL HBW.out hE8.size)
 have hwh:w.heap.size≤h8:=by omega
 clear hr6 hr8 hx0 hE8 hwl hl8
 have d12:u1.cell? ⟨h8,12,none⟩=some (.int .u16 (B.gi k 77)):=c8 12
 have d2:u1.cell? ⟨h8,2,none⟩=some (.bool false):=c8 2
 have d7:u1.cell? ⟨h8,7,none⟩=some (.int .i64 0):=c8 7
 have d3:u1.cell? ⟨h8,3,none⟩=some (.bool false):=c8 3
 have d4:u1.cell? ⟨h8,4,none⟩=some (.bool false):=c8 4
 have d5:u1.cell? ⟨h8,5,none⟩=some (.bool false):=c8 5
 have d6:u1.cell? ⟨h8,6,none⟩=some (.bool false):=c8 6
 clear c8
 have hbne:bb≠h8:=by have:=HBW.out;have:=HBL.out;omega
 have HIm:=hD (show(Tryz.prog.info? 46).map (·.size)=some (txMsg B k kind).size by rw[txMsg_size];exact size_msg)
 have HSm:=hD (show MZ.size=(txMsg B k kind).size by rw[txMsg_size];rfl)
 have HOm:=hD (txMsg_one B k kind)
 by_cases k0:kind=0
 ·have e0:(kind == 0)=true:=by simpa using k0
  have eC:(((msgA kind (B.gi k 13 != 0) false false false false false 0 (B.gi k 73) (B.gi k 74) (B.gi k 75) (B.gi k 76) (B.gi k 77) (B.gi k 82) (B.gi k 83) (B.gi k 84) (B.gi k 85)).setIfInBounds 12 (Value.int .u16 0)).setIfInBounds 2 (Value.bool (B.gb k 48))).setIfInBounds 7 (Value.int .i64 4)=txMsg B k kind:=by subst k0;rfl
  have H8:=hD (show(((u1.setCell ⟨h8,12,none⟩ (.int .u16 0)).setCell ⟨h8,2,none⟩ (.bool (B.gb k 48))).setCell ⟨h8,7,none⟩ (.int .i64 4)).heap[h8]?=some (.cells (txMsg B k kind) 46 (0,0))from(by rw[←eC];exact heap_setCell_same _ _ _ _ _ _ (heap_setCell_same _ _ _ _ _ _ (heap_setCell_same _ _ _ _ _ _ HR8.out))))
  have H6:=hD (show(((u1.setCell ⟨h8,12,none⟩ (.int .u16 0)).setCell ⟨h8,2,none⟩ (.bool (B.gb k 48))).setCell ⟨h8,7,none⟩ (.int .i64 4)).heap[t6]?=some (.cells MZ 46 (0,0))from(heap_setCell_other _ _ _ _ (Ne.symm hne)).trans ((heap_setCell_other _ _ _ _ (Ne.symm hne)).trans ((heap_setCell_other _ _ _ _ (Ne.symm hne)).trans HR6.out)))
  have HE:=hD (show Ext w ((((u1.setCell ⟨h8,12,none⟩ (.int .u16 0)).setCell ⟨h8,2,none⟩ (.bool (B.gb k 48))).setCell ⟨h8,7,none⟩ (.int .i64 4)).setRow t6 (txMsg B k kind))from ext_setRow (Below.setCell (Below.setCell (Below.setCell HEX.out hwh _) hwh _) hwh _) hw6 _)
  have HY:=hD (setRow_heap _ _ _ (txMsg B k kind) _ _ H6.out)
  clear eC
  go_wp2_with (first
   | fail
   | ((with_reducible refine at_load 46 ?_);refine wpList_load_row rfl 46 _ rfl h8 rfl 46 (txMsg B k kind) (0,0) _ H8.out Tryz.underlying46 rfl HIm.out ?_)
   | ((with_reducible refine at_store 46 ?_);refine wpList_store_row rfl 46 _ _ rfl t6 (txMsg B k kind) rfl rfl 46 MZ H6.out HIm.out HSm.out HOm.out ?_))
  refine bodyPost_ret (results_cell_row rfl _ _ _ _ (txMsg B k kind) (0,0) _ rfl HY.out Tryz.underlying46 rfl HIm.out) rfl ?_
  exact⟨rfl,HE.out⟩
 by_cases k1:kind=1
 ·have n0:(kind == 0)=false:=by simpa using k0
  have e1:(kind == 1)=true:=by simpa using k1
  have HB1:=hD (show Tryz.prog.built 46 [(0,.int .i64 1)]=some (txMsg B k kind) by rw[k1];exact msg_b1)
  have H8:=hD (show((u1.setCell ⟨h8,12,none⟩ (.int .u16 0)).setRow h8 (txMsg B k kind)).heap[h8]?=some (.cells (txMsg B k kind) 46 (0,0))from setRow_heap _ _ _ _ _ _ (heap_setCell_same _ _ _ _ _ _ HR8.out))
  have H6:=hD (show((u1.setCell ⟨h8,12,none⟩ (.int .u16 0)).setRow h8 (txMsg B k kind)).heap[t6]?=some (.cells MZ 46 (0,0))from(setRow_other _ _ _ _ (Ne.symm hne)).trans ((heap_setCell_other _ _ _ _ (Ne.symm hne)).trans HR6.out))
  have HE:=hD (show Ext w (((u1.setCell ⟨h8,12,none⟩ (.int .u16 0)).setRow h8 (txMsg B k kind)).setRow t6 (txMsg B k kind))from ext_setRow (ext_setRow (Below.setCell HEX.out hwh _) hwh _) hw6 _)
  have HY:=hD (setRow_heap _ _ _ (txMsg B k kind) _ _ H6.out)
  have HZ8:=hD (show(u1.setCell ⟨h8,12,none⟩ (.int .u16 0)).heap[h8]?=some (.cells _ 46 (0,0))from heap_setCell_same _ _ _ _ _ _ HR8.out)
  go_wp2_with (first
   | fail
   | ((with_reducible refine at_build 46 ?_);refine wpList_build2 rfl 46 _ rfl [(0,.int .i64 1)] rfl (txMsg B k kind) HB1.out ?_)
   | ((with_reducible refine at_load 46 ?_);refine wpList_load_row rfl 46 _ rfl h8 rfl 46 (txMsg B k kind) (0,0) _ H8.out Tryz.underlying46 rfl HIm.out ?_)
   | ((with_reducible refine at_store 46 ?_);refine wpList_store_row rfl 46 _ _ rfl h8 (txMsg B k kind) rfl rfl 46 _ HZ8.out HIm.out (by rw[txMsg_size];rfl) HOm.out ?_)
   | ((with_reducible refine at_store 46 ?_);refine wpList_store_row rfl 46 _ _ rfl t6 (txMsg B k kind) rfl rfl 46 MZ H6.out HIm.out HSm.out HOm.out ?_))
  refine bodyPost_ret (results_cell_row rfl _ _ _ _ (txMsg B k kind) (0,0) _ rfl HY.out Tryz.underlying46 rfl HIm.out) rfl ?_
  exact⟨rfl,HE.out⟩
 by_cases k2:kind=2
 ·have n0:(kind == 0)=false:=by simpa using k0
  have n1:(kind == 1)=false:=by simpa using k1
  have e2:(kind == 2)=true:=by simpa using k2
  go_wp2_with fail
  have hr8:(u1.setCell ⟨h8,12,none⟩ (.int .u16 0)).heap[h8]?=some (.cells _ 46 (0,0)):=heap_setCell_same _ _ _ _ _ _ HR8.out
  have hr6:(u1.setCell ⟨h8,12,none⟩ (.int .u16 0)).heap[t6]?=some (.cells MZ 46 (0,0)):=(heap_setCell_other _ _ _ _ (Ne.symm hne)).trans HR6.out
  have hEX:Ext w (u1.setCell ⟨h8,12,none⟩ (.int .u16 0)):=Below.setCell HEX.out hwh _
  have r34:(u1.setCell ⟨h8,12,none⟩ (.int .u16 0)).cell? ⟨bb,off+k*89+34,none⟩=some _:=(World.cell?_setCell_far _ _ _ _ (Ne.symm hbne)).trans p34
  have r22:(u1.setCell ⟨h8,12,none⟩ (.int .u16 0)).cell? ⟨bb,off+k*89+22,none⟩=some _:=(World.cell?_setCell_far _ _ _ _ (Ne.symm hbne)).trans p22
  have r29:(u1.setCell ⟨h8,12,none⟩ (.int .u16 0)).cell? ⟨bb,off+k*89+29,none⟩=some _:=(World.cell?_setCell_far _ _ _ _ (Ne.symm hbne)).trans p29
  have r27:(u1.setCell ⟨h8,12,none⟩ (.int .u16 0)).cell? ⟨bb,off+k*89+27,none⟩=some _:=(World.cell?_setCell_far _ _ _ _ (Ne.symm hbne)).trans p27
  have r87:(u1.setCell ⟨h8,12,none⟩ (.int .u16 0)).cell? ⟨bb,off+k*89+87,none⟩=some _:=(World.cell?_setCell_far _ _ _ _ (Ne.symm hbne)).trans p87
  clear hf8 d12 d2 d7 d3 d4 d5 d6 HR8 HR6 HEX HBU p13 p48 p34 p22 p29 p27 p87
  generalize (u1.setCell ⟨h8,12,none⟩ (.int .u16 0))=u2 at *
  obtain⟨R2,hR2⟩:∃R,(msgA kind (B.gi k 13 != 0) false false false false false 0 (B.gi k 73) (B.gi k 74) (B.gi k 75) (B.gi k 76) (B.gi k 77) (B.gi k 82) (B.gi k 83) (B.gi k 84) (B.gi k 85)).setIfInBounds 12 (Value.int .u16 0)=R:=⟨_,rfl⟩
  rw[hR2]at hr8
  have hbu:bb<u2.heap.size:=nL HBL.out hEX.size
  have h8u:h8<u2.heap.size:=heap_lt hr8
  have h6u:t6<u2.heap.size:=heap_lt hr6
  have Q34:=hD r34
  have Q22:=hD r22
  clear r34 r22
  refine beginL (S:=fun W'=>Mut (fun n=>n=h8) u2 W') (by kernel_rfl) ?_
  intro wd hqx
  have hq0:Mut (fun n=>n=h8) u2 wd:=hqx.mut _
  have hrd:=(hqx.block _ h8u).trans hr8
  have hfd:∀j,wd.frozen? ⟨h8,j,none⟩=false:=fun j=>frozen_of_row _ _ _ _ _ hrd
  have e3:wd.cell? ⟨h8,3,none⟩=some (.bool false):=(cell_of_row _ _ _ _ _ _ hrd).trans (by subst k2;rw[←hR2];rfl)
  have e4:wd.cell? ⟨h8,4,none⟩=some (.bool false):=(cell_of_row _ _ _ _ _ _ hrd).trans (by subst k2;rw[←hR2];rfl)
  clear hrd
  refine tLp 0 ((.pointer (some ⟨bb,off+k*89,none⟩))) rfl hq0 ?_
  refine tLp 1 ((.pointer (some ⟨bb,off+k*89,none⟩))) rfl hq0 ?_
  refine tLp 2 ((.pointer (some ⟨bb,off+k*89+22,none⟩))) rfl hq0 ?_
  refine tLp 3 ((.pointer (some ⟨bb,off+k*89+34,none⟩))) rfl hq0 ?_
  refine tL 4 (_) rfl (yieldsIf_cell rfl 4 _ rfl ⟨bb,off+k*89+34,none⟩ rfl (.bool (B.gb k 34)) _ (fun W' hW'=>(hW'.cell (p:=⟨bb,off+k*89+34,none⟩) hbu hbne).trans Q34.out) Tryz.underlying4 rfl) hq0 ?_
  refine tLp 5 ((.pointer (some ⟨bb,off+k*89,none⟩))) rfl hq0 ?_
  refine tLp 6 ((.pointer (some ⟨bb,off+k*89,none⟩))) rfl hq0 ?_
  refine tLp 7 ((.pointer (some ⟨bb,off+k*89+22,none⟩))) rfl hq0 ?_
  refine tLp 8 ((.pointer (some ⟨bb,off+k*89+22,none⟩))) rfl hq0 ?_
  refine tL 9 (_) rfl (yieldsIf_cell rfl 4 _ rfl ⟨bb,off+k*89+22,none⟩ rfl (.bool (B.gb k 22)) _ (fun W' hW'=>(hW'.cell (p:=⟨bb,off+k*89+22,none⟩) hbu hbne).trans Q22.out) Tryz.underlying4 rfl) hq0 ?_
  refine tLp 10 ((.pointer (some ⟨h8,3,none⟩))) rfl hq0 ?_
  refine runL (i:=11) rfl rfl (by kernel_rfl) (fun K hK=>?_)
  go_simp
  have hq1:=hq0.setCell (p:=⟨h8,3,none⟩) (.inl rfl) (.bool (B.gb k 34))
  refine hK.out _ _ hq1 (fun hHeld=>?_)
  try simp only[ps]
  clear hK K hHeld
  refine tLp 12 ((.pointer (some ⟨h8,4,none⟩))) rfl hq1 ?_
  refine runL (i:=13) rfl rfl (by kernel_rfl) (fun K hK=>?_)
  go_simp
  have hq2:=hq1.setCell (p:=⟨h8,4,none⟩) (.inl rfl) (.bool (B.gb k 22))
  refine hK.out _ _ hq2 (fun hHeld=>?_)
  try simp only[ps]
  clear hK K hHeld
  refine wpAnyH_done (by kernel_rfl) ?_ _
  have hr8n:((wd.setCell ⟨h8,3,none⟩ (.bool (B.gb k 34))).setCell ⟨h8,4,none⟩ (.bool (B.gb k 22))).heap[h8]?=some (.cells ((R2.setIfInBounds 3 (Value.bool (B.gb k 34))).setIfInBounds 4 (Value.bool (B.gb k 22))) 46 (0,0)):=heap_setCell_same _ _ _ _ _ _ (heap_setCell_same _ _ _ _ _ _ ((hqx.block _ h8u).trans hr8))
  have hr6n:((wd.setCell ⟨h8,3,none⟩ (.bool (B.gb k 34))).setCell ⟨h8,4,none⟩ (.bool (B.gb k 22))).heap[t6]?=some (.cells MZ 46 (0,0)):=(heap_setCell_other _ _ _ _ (Ne.symm hne)).trans ((heap_setCell_other _ _ _ _ (Ne.symm hne)).trans ((hqx.block _ h6u).trans hr6))
  have hEXn:Ext w ((wd.setCell ⟨h8,3,none⟩ (.bool (B.gb k 34))).setCell ⟨h8,4,none⟩ (.bool (B.gb k 22))):=Below.setCell (Below.setCell (hEX.trans hqx) hwh _) hwh _
  have rn29:((wd.setCell ⟨h8,3,none⟩ (.bool (B.gb k 34))).setCell ⟨h8,4,none⟩ (.bool (B.gb k 22))).cell? ⟨bb,off+k*89+29,none⟩=some _:=(World.cell?_setCell_far _ _ _ _ (Ne.symm hbne)).trans ((World.cell?_setCell_far _ _ _ _ (Ne.symm hbne)).trans ((hqx.cell (p:=⟨bb,off+k*89+29,none⟩) hbu).trans r29))
  have rn27:((wd.setCell ⟨h8,3,none⟩ (.bool (B.gb k 34))).setCell ⟨h8,4,none⟩ (.bool (B.gb k 22))).cell? ⟨bb,off+k*89+27,none⟩=some _:=(World.cell?_setCell_far _ _ _ _ (Ne.symm hbne)).trans ((World.cell?_setCell_far _ _ _ _ (Ne.symm hbne)).trans ((hqx.cell (p:=⟨bb,off+k*89+27,none⟩) hbu).trans r27))
  have rn87:((wd.setCell ⟨h8,3,none⟩ (.bool (B.gb k 34))).setCell ⟨h8,4,none⟩ (.bool (B.gb k 22))).cell? ⟨bb,off+k*89+87,none⟩=some _:=(World.cell?_setCell_far _ _ _ _ (Ne.symm hbne)).trans ((World.cell?_setCell_far _ _ _ _ (Ne.symm hbne)).trans ((hqx.cell (p:=⟨bb,off+k*89+87,none⟩) hbu).trans r87))
  clear hr8 hr6 hEX hqx hq0 hq1 hq2 hbu h8u h6u hfd e3 e4 Q34 Q22 r29 r27 r87
  generalize ((wd.setCell ⟨h8,3,none⟩ (.bool (B.gb k 34))).setCell ⟨h8,4,none⟩ (.bool (B.gb k 22)))=u3 at *
  clear wd
  have hr8:=hr8n
  have hr6:=hr6n
  have hEX:=hEXn
  have r29:=rn29
  have r27:=rn27
  have r87:=rn87
  clear hr8n hr6n hEXn rn29 rn27 rn87
  obtain⟨R3,hR3⟩:∃R,((R2.setIfInBounds 3 (Value.bool (B.gb k 34))).setIfInBounds 4 (Value.bool (B.gb k 22)))=R:=⟨_,rfl⟩
  rw[hR3]at hr8
  go_wp2_with fail
  have hbu:bb<u3.heap.size:=nL HBL.out hEX.size
  have h8u:h8<u3.heap.size:=heap_lt hr8
  have h6u:t6<u3.heap.size:=heap_lt hr6
  have Q29:=hD r29
  have Q27:=hD r27
  clear r29 r27
  refine beginL (S:=fun W'=>Mut (fun n=>n=h8) u3 W') (by kernel_rfl) ?_
  intro wd hqx
  have hq0:Mut (fun n=>n=h8) u3 wd:=hqx.mut _
  have hrd:=(hqx.block _ h8u).trans hr8
  have hfd:∀j,wd.frozen? ⟨h8,j,none⟩=false:=fun j=>frozen_of_row _ _ _ _ _ hrd
  have e5:wd.cell? ⟨h8,5,none⟩=some (.bool false):=(cell_of_row _ _ _ _ _ _ hrd).trans (by subst k2;rw[←hR3,←hR2];rfl)
  have e6:wd.cell? ⟨h8,6,none⟩=some (.bool false):=(cell_of_row _ _ _ _ _ _ hrd).trans (by subst k2;rw[←hR3,←hR2];rfl)
  clear hrd
  refine tLp 0 ((.pointer (some ⟨bb,off+k*89,none⟩))) rfl hq0 ?_
  refine tLp 1 ((.pointer (some ⟨bb,off+k*89,none⟩))) rfl hq0 ?_
  refine tLp 2 ((.pointer (some ⟨bb,off+k*89+22,none⟩))) rfl hq0 ?_
  refine tLp 3 ((.pointer (some ⟨bb,off+k*89+29,none⟩))) rfl hq0 ?_
  refine tL 4 (_) rfl (yieldsIf_cell rfl 4 _ rfl ⟨bb,off+k*89+29,none⟩ rfl (.bool (B.gb k 29)) _ (fun W' hW'=>(hW'.cell (p:=⟨bb,off+k*89+29,none⟩) hbu hbne).trans Q29.out) Tryz.underlying4 rfl) hq0 ?_
  refine tLp 5 ((.pointer (some ⟨bb,off+k*89,none⟩))) rfl hq0 ?_
  refine tLp 6 ((.pointer (some ⟨bb,off+k*89,none⟩))) rfl hq0 ?_
  refine tLp 7 ((.pointer (some ⟨bb,off+k*89+22,none⟩))) rfl hq0 ?_
  refine tLp 8 ((.pointer (some ⟨bb,off+k*89+27,none⟩))) rfl hq0 ?_
  refine tL 9 (_) rfl (yieldsIf_cell rfl 4 _ rfl ⟨bb,off+k*89+27,none⟩ rfl (.bool (B.gb k 27)) _ (fun W' hW'=>(hW'.cell (p:=⟨bb,off+k*89+27,none⟩) hbu hbne).trans Q27.out) Tryz.underlying4 rfl) hq0 ?_
  refine tLp 10 ((.pointer (some ⟨h8,5,none⟩))) rfl hq0 ?_
  refine runL (i:=11) rfl rfl (by kernel_rfl) (fun K hK=>?_)
  go_simp
  have hq1:=hq0.setCell (p:=⟨h8,5,none⟩) (.inl rfl) (.bool (B.gb k 29))
  refine hK.out _ _ hq1 (fun hHeld=>?_)
  try simp only[ps]
  clear hK K hHeld
  refine tLp 12 ((.pointer (some ⟨h8,6,none⟩))) rfl hq1 ?_
  refine runL (i:=13) rfl rfl (by kernel_rfl) (fun K hK=>?_)
  go_simp
  have hq2:=hq1.setCell (p:=⟨h8,6,none⟩) (.inl rfl) (.bool (B.gb k 27))
  refine hK.out _ _ hq2 (fun hHeld=>?_)
  try simp only[ps]
  clear hK K hHeld
  refine wpAnyH_done (by kernel_rfl) ?_ _
  have hr8n:((wd.setCell ⟨h8,5,none⟩ (.bool (B.gb k 29))).setCell ⟨h8,6,none⟩ (.bool (B.gb k 27))).heap[h8]?=some (.cells ((R3.setIfInBounds 5 (Value.bool (B.gb k 29))).setIfInBounds 6 (Value.bool (B.gb k 27))) 46 (0,0)):=heap_setCell_same _ _ _ _ _ _ (heap_setCell_same _ _ _ _ _ _ ((hqx.block _ h8u).trans hr8))
  have hr6n:((wd.setCell ⟨h8,5,none⟩ (.bool (B.gb k 29))).setCell ⟨h8,6,none⟩ (.bool (B.gb k 27))).heap[t6]?=some (.cells MZ 46 (0,0)):=(heap_setCell_other _ _ _ _ (Ne.symm hne)).trans ((heap_setCell_other _ _ _ _ (Ne.symm hne)).trans ((hqx.block _ h6u).trans hr6))
  have hEXn:Ext w ((wd.setCell ⟨h8,5,none⟩ (.bool (B.gb k 29))).setCell ⟨h8,6,none⟩ (.bool (B.gb k 27))):=Below.setCell (Below.setCell (hEX.trans hqx) hwh _) hwh _
  have rn87:((wd.setCell ⟨h8,5,none⟩ (.bool (B.gb k 29))).setCell ⟨h8,6,none⟩ (.bool (B.gb k 27))).cell? ⟨bb,off+k*89+87,none⟩=some _:=(World.cell?_setCell_far _ _ _ _ (Ne.symm hbne)).trans ((World.cell?_setCell_far _ _ _ _ (Ne.symm hbne)).trans ((hqx.cell (p:=⟨bb,off+k*89+87,none⟩) hbu).trans r87))
  clear hr8 hr6 hEX hqx hq0 hq1 hq2 hbu h8u h6u hfd e5 e6 Q29 Q27 r87
  generalize ((wd.setCell ⟨h8,5,none⟩ (.bool (B.gb k 29))).setCell ⟨h8,6,none⟩ (.bool (B.gb k 27)))=u4 at *
  clear wd
  have hr8:=hr8n
  have hr6:=hr6n
  have hEX:=hEXn
  have r87:=rn87
  clear hr8n hr6n hEXn rn87
  obtain⟨R4,hR4⟩:∃R,((R3.setIfInBounds 5 (Value.bool (B.gb k 29))).setIfInBounds 6 (Value.bool (B.gb k 27)))=R:=⟨_,rfl⟩
  rw[hR4]at hr8
  have hf8:∀j,u4.frozen? ⟨h8,j,none⟩=false:=fun j=>frozen_of_row _ _ _ _ _ hr8
  have hR5:R4.setIfInBounds 7 (Value.int .i64 (B.gi k 87))=txMsg B k kind:=by
   subst k2
   rw[←hR4,←hR3,←hR2]
   rfl
  have d7:∃v,u4.cell? ⟨h8,7,none⟩=some v:=⟨.int .i64 0,(cell_of_row _ _ _ _ _ _ hr8).trans (by subst k2;rw[←hR4,←hR3,←hR2];rfl)⟩
  obtain⟨v7,d7⟩:=d7
  have H8:=hD (show(u4.setCell ⟨h8,7,none⟩ (.int .i64 (B.gi k 87))).heap[h8]?=some (.cells (txMsg B k kind) 46 (0,0))from(by rw[←hR5];exact heap_setCell_same _ _ _ _ _ _ hr8))
  have H6:=hD (show(u4.setCell ⟨h8,7,none⟩ (.int .i64 (B.gi k 87))).heap[t6]?=some (.cells MZ 46 (0,0))from(heap_setCell_other _ _ _ _ (Ne.symm hne)).trans hr6)
  have HE:=hD (show Ext w ((u4.setCell ⟨h8,7,none⟩ (.int .i64 (B.gi k 87))).setRow t6 (txMsg B k kind))from ext_setRow (Below.setCell hEX hwh _) hw6 _)
  have HY:=hD (setRow_heap _ _ _ (txMsg B k kind) _ _ H6.out)
  clear hR5 hR4 hR3 hR2 hr8 hr6 hEX
  go_wp2_with (first
   | fail
   | ((with_reducible refine at_load 46 ?_);refine wpList_load_row rfl 46 _ rfl h8 rfl 46 (txMsg B k kind) (0,0) _ H8.out Tryz.underlying46 rfl HIm.out ?_)
   | ((with_reducible refine at_store 46 ?_);refine wpList_store_row rfl 46 _ _ rfl t6 (txMsg B k kind) rfl rfl 46 MZ H6.out HIm.out HSm.out HOm.out ?_))
  refine bodyPost_ret (results_cell_row rfl _ _ _ _ (txMsg B k kind) (0,0) _ rfl HY.out Tryz.underlying46 rfl HIm.out) rfl ?_
  exact⟨rfl,HE.out⟩
 ·have n0:(kind == 0)=false:=by simpa using k0
  have n1:(kind == 1)=false:=by simpa using k1
  have n2:(kind == 2)=false:=by simpa using k2
  have HB1:=hD (show Tryz.prog.built 46 []=some (txMsg B k kind) by unfold txMsg;rw[if_neg k0,if_neg k1,if_neg k2];exact msg_b2)
  have H8:=hD (show((u1.setCell ⟨h8,12,none⟩ (.int .u16 0)).setRow h8 (txMsg B k kind)).heap[h8]?=some (.cells (txMsg B k kind) 46 (0,0))from setRow_heap _ _ _ _ _ _ (heap_setCell_same _ _ _ _ _ _ HR8.out))
  have H6:=hD (show((u1.setCell ⟨h8,12,none⟩ (.int .u16 0)).setRow h8 (txMsg B k kind)).heap[t6]?=some (.cells MZ 46 (0,0))from(setRow_other _ _ _ _ (Ne.symm hne)).trans ((heap_setCell_other _ _ _ _ (Ne.symm hne)).trans HR6.out))
  have HE:=hD (show Ext w (((u1.setCell ⟨h8,12,none⟩ (.int .u16 0)).setRow h8 (txMsg B k kind)).setRow t6 (txMsg B k kind))from ext_setRow (ext_setRow (Below.setCell HEX.out hwh _) hwh _) hw6 _)
  have HY:=hD (setRow_heap _ _ _ (txMsg B k kind) _ _ H6.out)
  have HZ8:=hD (show(u1.setCell ⟨h8,12,none⟩ (.int .u16 0)).heap[h8]?=some (.cells _ 46 (0,0))from heap_setCell_same _ _ _ _ _ _ HR8.out)
  go_wp2_with (first
   | fail
   | ((with_reducible refine at_build 46 ?_);refine wpList_build2 rfl 46 _ rfl [] rfl (txMsg B k kind) HB1.out ?_)
   | ((with_reducible refine at_load 46 ?_);refine wpList_load_row rfl 46 _ rfl h8 rfl 46 (txMsg B k kind) (0,0) _ H8.out Tryz.underlying46 rfl HIm.out ?_)
   | ((with_reducible refine at_store 46 ?_);refine wpList_store_row rfl 46 _ _ rfl h8 (txMsg B k kind) rfl rfl 46 _ HZ8.out HIm.out (by rw[txMsg_size];rfl) HOm.out ?_)
   | ((with_reducible refine at_store 46 ?_);refine wpList_store_row rfl 46 _ _ rfl t6 (txMsg B k kind) rfl rfl 46 MZ H6.out HIm.out HSm.out HOm.out ?_))
  refine bodyPost_ret (results_cell_row rfl _ _ _ _ (txMsg B k kind) (0,0) _ rfl HY.out Tryz.underlying46 rfl HIm.out) rfl ?_
  exact⟨rfl,HE.out⟩
end Go.Proofs.YtpanapepcbbagaaGreat
