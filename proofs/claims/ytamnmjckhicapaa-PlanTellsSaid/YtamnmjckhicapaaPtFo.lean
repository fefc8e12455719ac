/- Part 15 of what PlanVersions stands on. No statement is proved here. -/
import Derived.Laws.Rows
import Derived.Test.YtamnmjckhicapaaPtFn
namespace Go.Proofs.Ytamnmjckhicapaa
open Go.RowKit Go.BigFrame Go.WideShapes Go.ChangeShapes Go.Deep
set_option linter.unusedVariables false
set_option linter.unusedSimpArgs false
set_option maxRecDepth 100000
theorem field_port (w:World) (a b:Int):(Instr.field 58 (.agg #[.int .i64 a,.int .i64 b]) 1).run Try.prog w=.ok (.int .i64 b) w:=by kernel_rfl
theorem ints_R {w:World} {base B n:Nat} {v:Value} {f:Pl→Option Int} {By:List Pl} {i:Nat} (h:w.ownsRow B 3 1 v n (iv (alL f By i n))) (h0:n=0→v=.slice none 0 0) (hb:base≤B):IntsR w base v (alL f By i n):=by
 by_cases hn:n=0
 ·subst hn
  exact .inl ⟨rfl,h0 rfl⟩
 ·obtain ⟨g,cap,rfl,h1,h2,h3⟩:=ints_form h (alL_len f By i n).symm (by omega)
  exact .inr ⟨g,cap,by rw [alL_len],h3,by rw [alL_len]; exact h2,by omega⟩
set_option maxRecDepth 100000 in
set_option maxHeartbeats 8000000 in
theorem roles_any (t0 t1 t2 t3 hold room age:Int) (nb no n ncap gr rcap gf mb mn yb yo yn ycap i:Nat) (sv:Value) (N:List Nd) (D:List Way) (R:List Int) (f:Pl→Option Int) (By:List Pl) (w:World)
    (hN:NodesAt w (.slice (some ⟨nb,no,none⟩) n ncap) N) (hnl:N.length=n) (hn5:n≤5) (hD:WRow w gf D) (hdl:D.length=n) (hdc:∀ i,i < n→∃ x,D.getD i Option.none=Option.some x∧x.1 < 4294967296) (hco:CostOk N)
    (hm:SegM w mb mn f) (hy:PlAt w (.slice (some ⟨yb,yo,none⟩) yn ycap) By) (hyl:By.length=yn) (hfb:∀ a s,f a=some s→0≤s∧s < yn∧PlOk N (By.getD s.toNat (0,0))) (hbr:∀ b ∈ By,PRg b)
    (hR:Nums w gr R) (hrl:R.length=n) (hrc:n≤rcap) (hi:i < n) (hnp:(N.getD i default).ports.length≤60) :
    Calls Try.prog 24 #[(.agg #[.int .i64 t0,.int .i64 t1,.int .i64 t2,.int .i64 t3,.int .i64 hold,.int .i64 room,.int .i64 age,.slice (some ⟨nb,no,none⟩) n ncap,sv,.slice (some ⟨gr,0,none⟩) n rcap,.slice (some ⟨gf,0,none⟩) n n,.map (some mb),.slice (some ⟨yb,yo,none⟩) yn ycap]),.int .i64 (i:Int)] w fun e w'=>∃ v',e=.returned v'∧IntsR w' w.heap.size v' (roleF N D R f By i)∧Ext w w':=by
 obtain ⟨i3,hi3,hz3,hs3,hb3⟩:=info_parts info_int
 have I3:=Lib.hid (And.intro hi3 (And.intro hz3 (And.intro hs3 hb3)))
 obtain ⟨i2,hi2,hz2,hs2,hb2⟩:=info_parts info_pl
 have I2:=Lib.hid (And.intro hi2 (And.intro hz2 (And.intro hs2 hb2)))
 obtain ⟨pv,⟨na,nc,hne,hnm,hnf⟩,hpt⟩:=id hN
 obtain ⟨nb',no',rfl,hnb,hnc,hnc2,hn4⟩:=hnf (by omega)
 simp only [Value.slice.injEq,Option.some.injEq,Addr.mk.injEq] at hne
 obtain ⟨⟨rfl,rfl,-⟩,-,rfl⟩:=hne
 obtain ⟨pa,pcap,hpe,hpm,hpf⟩:=hpt i (by omega)
 rw [hnl] at hnc hnm
 have hnr:w.rangeAt nb (no+i*3) [.int .u64 (N.getD i default).id,.bool (N.getD i default).rst,pv i]:=hn4 i (by omega)
 obtain ⟨np,hmp⟩:∃ m,(N.getD i default).ports.length=m:=⟨_,rfl⟩
 rw [hpe,hmp] at hnr
 have hci:=range_one hnr (j:=2) rfl
 have HNP:=Lib.hid hmp
 have HRF:=Lib.hid (show roleF N D R f By i=if ¬ at0 R i=i∧0 < (waL f By i np).length then (alL f By i np).set (minF (nearP N D f By) (waL f By i np)).2.toNat 3 else alL f By i np from by unfold roleF; rw [hmp])
 rw [hmp] at hnp
 have HNB:=Lib.hid hnb
 have HCI:=Lib.hid hci
 have HN:=Lib.hid hN
 have HNL:=Lib.hid hnl
 have H5:=Lib.hid hn5
 have HD:=Lib.hid hD
 have HDL:=Lib.hid hdl
 have HDC:=Lib.hid hdc
 have HCO:=Lib.hid hco
 have HSM:=Lib.hid hm
 have HY:=Lib.hid hy
 have HYL:=Lib.hid hyl
 have HFB:=Lib.hid hfb
 have HBR:=Lib.hid hbr
 have HR:=Lib.hid hR
 have HRL:=Lib.hid hrl
 clear hi3 hz3 hs3 hb3 hi2 hz2 hs2 hb2 hN hnl hn5 hD hdl hdc hco hm hy hyl hfb hbr hR hrl hnf hpt hn4 hpe hpf hmp hnr hci hnb
 go_enter Try.func24,Try.ntmps24
 go_wp2_with (first
  | fail
  | ((with_reducible refine at_box 79 ?_); refine bx_row rfl 79 _ rfl #[.int .i64 t0,.int .i64 t1,.int .i64 t2,.int .i64 t3,.int .i64 hold,.int .i64 room,.int .i64 age,.slice (some ⟨nb,no,none⟩) n ncap,sv,.slice (some ⟨gr,0,none⟩) n rcap,.slice (some ⟨gf,0,none⟩) n n,.map (some mb),.slice (some ⟨yb,yo,none⟩) yn ycap] rfl ?_
     intro X wb hX hsz hx1
     have HX:=Lib.hid (show BoxAt wb X #[.int .i64 t0,.int .i64 t1,.int .i64 t2,.int .i64 t3,.int .i64 hold,.int .i64 room,.int .i64 age,.slice (some ⟨nb,no,none⟩) n ncap,sv,.slice (some ⟨gr,0,none⟩) n rcap,.slice (some ⟨gf,0,none⟩) n n,.map (some mb),.slice (some ⟨yb,yo,none⟩) yn ycap] 79 from hX)
     have HE:=Lib.hid hx1
     have c7:wb.cell? ⟨X,7,none⟩=some (.slice (some ⟨nb,no,none⟩) n ncap):=HX.out.cell 7 rfl
     have c2:wb.cell? ⟨nb,no+i*3+2,none⟩=some (.slice pa np pcap):=(HE.out.cell HNB.out).trans HCI.out
     obtain ⟨B,hB⟩:∃ B,wb.heap.size=B:=⟨_,rfl⟩
     have HB:=Lib.hid hB
     have HWB:=Lib.hid (show w.heap.size≤B from by rw [← hB]; exact HE.out.size)
     clear hX hsz hx1 hB))
 go_loopw [5,6,17] (fun s t x wr=>∃ (k:Nat) (u y:Value) (wo:World),wo=wr∧u=s∧y=t∧x=.int .i64 k∧k≤np∧(k=0→u=.slice none 0 0)∧wo.ownsRow B 3 1 u k (iv (alL f By i k))∧wo.ownsRow B 58 2 y (waL f By i k).length (flatP (waL f By i k))∧(∀ g,u.ownBlock=some g→y.ownBlock ≠ some g)∧Ext wb wo) (fun _ _ x _=>np - (intOf x).toNat)
 case atStart=>exact ⟨0,_,_,_,rfl,rfl,rfl,rfl,by omega,fun _=>rfl,⟨rfl,.inl ⟨rfl,rfl⟩⟩,⟨rfl,.inl ⟨rfl,rfl⟩⟩,fun g h=>by simp [Value.ownBlock] at h,Ext.refl _⟩
 case round =>
  obtain ⟨k,u,y,wo,rfl,rfl,rfl,rfl,hk,hk0,ho,hw,hd,hx⟩:=hrel
  rename World=>wl
  have HO:=Lib.hid ho
  have HW:=Lib.hid hw
  have HDI:=Lib.hid hd
  have HXL:=Lib.hid hx
  have HBX:=Lib.hid (HX.out.ext hx)
  have HK0:=Lib.hid hk0
  clear ho hw hd hx hk0 c7 c2
  by_cases hlt:k < np
  ·have dlt:decide ((k:Int) < (np:Int))=true:=by simp; omega
   have hup:IntKind.i64.wrap ((k:Int)+1)=((k+1:Nat):Int):=by rw [IntKind.wrap_i64]; omega
   have hwl:=waL_len f By i k
   go_wp2_with (first
    | fail
    | ((with_reducible refine at_build 58 ?_); refine wpList_build2 rfl 58 _ rfl [(0,.int .i64 (i:Int)),(1,.int .i64 (k:Int))] rfl #[.int .i64 (i:Int),.int .i64 (k:Int)] (by kernel_rfl) ?_)
    | ((with_reducible refine at_alloc 58 ?_); refine al_zero rfl 58 rfl PZ2 zero_pl ?_
       intro G w4 hq4 hsz4 hx4)
    | ((with_reducible refine at_store 58 ?_); refine st_at rfl rfl 58 _ _ rfl G 0 _ #[.int .i64 (i:Int),.int .i64 (k:Int)] PZ2 #[.int .i64 (i:Int),.int .i64 (k:Int)] 58 rfl rfl rfl hq4 (by exact (by decide:0+2≤2)) (by kernel_rfl) rfl rfl ?_
       intro w5 hq5 hm5
       have E5:Ext wl w5:=hx4.mutE hm5 (fun n hn h=>by have h2:n=G:=h; omega)
       have HG5:=Lib.hid (show BoxAt w5 G #[.int .i64 (i:Int),.int .i64 (k:Int)] 58 from hq5)
       have HXE5:=Lib.hid (HXL.out.trans E5)
       have HE5:=Lib.hid (HE.out.trans (HXL.out.trans E5))
       have HX5:=Lib.hid (HBX.out.ext E5)
       have HO5:=Lib.hid (ownR_ext HO.out E5)
       have HW5:=Lib.hid (ownR_ext HW.out E5)
       have HGW:=Lib.hid (show wl.heap.size≤G by omega)
       clear hq4 hsz4 hx4 hq5 hm5 E5 w4)
    | ((with_reducible refine at_load 79 ?_); refine wpList_load_row rfl 79 _ rfl X rfl 79 #[.int .i64 t0,.int .i64 t1,.int .i64 t2,.int .i64 t3,.int .i64 hold,.int .i64 room,.int .i64 age,.slice (some ⟨nb,no,none⟩) n ncap,sv,.slice (some ⟨gr,0,none⟩) n rcap,.slice (some ⟨gf,0,none⟩) n n,.map (some mb),.slice (some ⟨yb,yo,none⟩) yn ycap] (0,0) _ HX5.out Try.underlying79 rfl size_view ?_)
    | ((with_reducible refine at_load 58 ?_); refine wpList_load_row rfl 58 _ rfl G rfl 58 #[.int .i64 (i:Int),.int .i64 (k:Int)] (0,0) _ HG5.out Try.underlying58 rfl size_pl ?_))
   refine (alone_any t0 t1 t2 t3 hold room age (.slice (some ⟨nb,no,none⟩) n ncap) sv (.slice (some ⟨gr,0,none⟩) n rcap) (.slice (some ⟨gf,0,none⟩) n n) mb mn yb yo yn ycap i k f By w5 (HSM.out.ext HE5.out) (RowAt.ext HY.out HE5.out) HYL.out (fun a s h=>⟨(HFB.out a s h).1,(HFB.out a s h).2.1⟩) HBR.out (by have:=H5.out; omega) (by omega)).mono ?_
   rintro e w6 ⟨rfl,hx6⟩
   obtain ⟨al,hal⟩:∃ al,aloneF f By ((i:Int),(k:Int))=al:=⟨_,rfl⟩
   rw [hal]
   have HS1:=Lib.hid (show iv (alL f By i (k+1))=iv (alL f By i k) ++ [.int .i64 al] from by rw [alL_snoc,← hal]; simp [iv,alK])
   have HAK:=Lib.hid (show at0 (alL f By i (k+1)) k=al from by
    rw [alL_snoc,← hal]
    have h9:=alL_len f By i k
    simp [at0,List.getD,h9,alK])
   have HS2:=Lib.hid (show waL f By i (k+1)=waL f By i k ++ if al=1 then [((i:Int),(k:Int))] else [] from by rw [waL_snoc,← hal]; rfl)
   have HE6:=Lib.hid (HXE5.out.trans hx6)
   have HG6:=Lib.hid (HG5.out.ext hx6)
   have HO6:=Lib.hid ((ownR_ext HO5.out hx6).alloc (.cells #[.int .i64 al] 3))
   have HW6:=Lib.hid ((ownR_ext HW5.out hx6).alloc (.cells #[.int .i64 al] 3))
   have HNW:=Lib.hid (fun (j:Nat) (u:Value) (hu:[Value.int .i64 al][j]?=some u)=>World.news_of_block (heap_alloc_new w6 (.cells #[.int .i64 al] 3)) j u (by simpa using hu))
   have HBZ:=Lib.hid (show B≤(w6.alloc (.cells #[.int .i64 al] 3)).heap.size from by have:=HE6.out.size; have:=HB.out; simp; omega)
   clear hx6 hal
   by_cases hal1:al=1
   ·subst hal1
    have HS3:=Lib.hid (show waL f By i (k+1)=waL f By i k ++ [((i:Int),(k:Int))] from by rw [HS2.out,if_pos rfl])
    have HS4:=Lib.hid (show flatP (waL f By i (k+1))=flatP (waL f By i k) ++ [.int .i64 (i:Int),.int .i64 (k:Int)] from by rw [HS3.out,flatP_snoc]; rfl)
    obtain ⟨wn,hwn⟩:∃ wn,(waL f By i k).length=wn:=⟨_,rfl⟩
    rw [hwn] at HW6 hwl
    have HS5:=Lib.hid (show (waL f By i (k+1)).length=wn+1 from by rw [HS3.out,List.length_append,hwn]; rfl)
    clear hwn
    go_wp2_with (first
    | fail
    | (at_builtin; refine wpList_append_own_at _ rfl _ _ 56 rfl B 3 i3 (.int .i64 0) 1 8 Try.underlying56 I3.out.1 I3.out.2.1 I3.out.2.2.1 I3.out.2.2.2 rfl (by decide) _ k (iv (alL f By i k)) rfl HO6.out ⟨w6.heap.size,0,none⟩ 1 1 [.int .i64 1] rfl rfl HNW.out (by simp; rfl) (by unfold maxLen; omega) (by omega) HBZ.out ?_
       intro v7 w7 ho7 hg7 _ hb7
       have HX7:=Lib.hid (ext_grown (HE6.out.alloc (.cells #[.int .i64 1] 3)) HO6.out (Nat.le_of_eq HB.out) hg7)
       have ho8:w7.ownsRow B 3 1 v7 (k+1) (iv (alL f By i (k+1))):=by rw [HS1.out]; exact ho7
       have HW7:=Lib.hid (own_kept HW6.out hg7 (fun g hg e=>HDI.out g e hg))
       have HG7:=Lib.hid (show BoxAt w7 G #[.int .i64 (i:Int),.int .i64 (k:Int)] 58 from (hg7.block G (Nat.lt_of_lt_of_le (heap_lt HG6.out) (by simp)) (fun e=>by have h1:=(own_lt2 HO.out e.symm).2; have:=HGW.out; omega)).trans ((heap_alloc_old _ _ (heap_lt HG6.out)).trans HG6.out))
       have HD7:=Lib.hid (show ∀ g,v7.ownBlock=some g→y.ownBlock ≠ some g from fun g h1 h2=>by
        rcases hb7 with e | e
        ·exact HDI.out g (e ▸ h1) h2
        ·have h3:=(own_lt2 HW6.out h2).2
         rw [e] at h1
         have h4:(w6.alloc (.cells #[.int .i64 1] 3)).heap.size=g:=by simpa using h1
         omega)
       have hlt7:=fun g (hg:v7.ownBlock=some g)=>(own_lt2 ho8 hg).2
       have HO7:=Lib.hid ho8
       obtain ⟨g7,cap7,rfl,hg7b,hc7,hnu7⟩:=ints_form ho8 (alL_len f By i (k+1)).symm (by omega)
       have c8:w7.cell? ⟨g7,k,none⟩=some (.int .i64 1):=by
        have h:=hnu7.cell (i:=k) (by rw [alL_len]; omega)
        rw [HAK.out] at h
        exact h
       have HW8:=Lib.hid (HW7.out.alloc (.cells #[.int .i64 (i:Int),.int .i64 (k:Int)] 58))
       have HO8:=Lib.hid (HO7.out.alloc (.cells #[.int .i64 (i:Int),.int .i64 (k:Int)] 58))
       have HNW2:=Lib.hid (fun (j:Nat) (u:Value) (hu:[Value.int .i64 (i:Int),Value.int .i64 (k:Int)][j]?=some u)=>World.news_of_block (heap_alloc_new w7 (.cells #[.int .i64 (i:Int),.int .i64 (k:Int)] 58)) j u (by simpa using hu))
       have HBZ2:=Lib.hid (show B≤(w7.alloc (.cells #[.int .i64 (i:Int),.int .i64 (k:Int)] 58)).heap.size from by have:=HX7.out.size; have:=HB.out; simp; omega)
       clear ho7 hg7 hb7 ho8 hnu7 hlt7)
    | ((with_reducible refine at_load 58 ?_); refine wpList_load_row rfl 58 _ rfl G rfl 58 #[.int .i64 (i:Int),.int .i64 (k:Int)] (0,0) _ HG7.out Try.underlying58 rfl size_pl ?_)
    | (at_builtin; refine wpList_append_own_at _ rfl _ _ 39 rfl B 58 i2 (.agg PZ2) 2 16 Try.underlying39 I2.out.1 I2.out.2.1 I2.out.2.2.1 I2.out.2.2.2 rfl (by decide) _ wn (flatP (waL f By i k)) rfl HW8.out ⟨w7.heap.size,0,none⟩ 1 1 [.int .i64 (i:Int),.int .i64 (k:Int)] rfl rfl HNW2.out (by intro u hu; simp only [List.mem_cons,List.not_mem_nil,or_false] at hu; rcases hu with rfl | rfl <;> rfl) (by unfold maxLen; omega) (by omega) HBZ2.out ?_
       intro v9 w9 ho9 hg9 _ hb9
       have HX9:=Lib.hid (ext_grown (HX7.out.alloc (.cells #[.int .i64 (i:Int),.int .i64 (k:Int)] 58)) HW8.out (Nat.le_of_eq HB.out) hg9)
       have HW9:=Lib.hid (show w9.ownsRow B 58 2 v9 (waL f By i (k+1)).length (flatP (waL f By i (k+1))) from by rw [HS5.out,HS4.out]; exact ho9)
       have HO9:=Lib.hid (own_kept HO8.out hg9 (fun g h1 h2=>HD7.out g h1 h2))
       have HD9:=Lib.hid (show ∀ g,Value.ownBlock (.slice (some ⟨g7,0,none⟩) (k+1) cap7)=some g→v9.ownBlock ≠ some g from fun g h1 h2=>by
        rcases hb9 with e | e
        ·exact HD7.out g h1 (e ▸ h2)
        ·have h3:=(own_lt2 HO8.out h1).2
         rw [e] at h2
         have h4:(w7.alloc (.cells #[.int .i64 (i:Int),.int .i64 (k:Int)] 58)).heap.size=g:=by simpa using h2
         omega)
       clear ho9 hg9 hb9))
    go_roundw
    case rel=>exact ⟨k+1,_,_,_,rfl,rfl,rfl,by go_num,by omega,fun h=>by omega,HO9.out,HW9.out,HD9.out,HX9.out⟩
    case measure=>simp [intOf] <;> omega
   ·have dal:decide (al=1)=false:=by simpa using hal1
    have bal:(al == 1)=false:=by simpa using hal1
    have HS3:=Lib.hid (show waL f By i (k+1)=waL f By i k from by rw [HS2.out,if_neg hal1,List.append_nil])
    go_wp2_with (first
    | fail
    | (at_builtin; refine wpList_append_own_at _ rfl _ _ 56 rfl B 3 i3 (.int .i64 0) 1 8 Try.underlying56 I3.out.1 I3.out.2.1 I3.out.2.2.1 I3.out.2.2.2 rfl (by decide) _ k (iv (alL f By i k)) rfl HO6.out ⟨w6.heap.size,0,none⟩ 1 1 [.int .i64 al] rfl rfl HNW.out (by simp; rfl) (by unfold maxLen; omega) (by omega) HBZ.out ?_
       intro v7 w7 ho7 hg7 _ hb7
       have HX7:=Lib.hid (ext_grown (HE6.out.alloc (.cells #[.int .i64 al] 3)) HO6.out (Nat.le_of_eq HB.out) hg7)
       have ho8:w7.ownsRow B 3 1 v7 (k+1) (iv (alL f By i (k+1))):=by rw [HS1.out]; exact ho7
       have HW7:=Lib.hid (own_kept HW6.out hg7 (fun g hg e=>HDI.out g e hg))
       have HG7:=Lib.hid (show BoxAt w7 G #[.int .i64 (i:Int),.int .i64 (k:Int)] 58 from (hg7.block G (Nat.lt_of_lt_of_le (heap_lt HG6.out) (by simp)) (fun e=>by have h1:=(own_lt2 HO.out e.symm).2; have:=HGW.out; omega)).trans ((heap_alloc_old _ _ (heap_lt HG6.out)).trans HG6.out))
       have HD7:=Lib.hid (show ∀ g,v7.ownBlock=some g→y.ownBlock ≠ some g from fun g h1 h2=>by
        rcases hb7 with e | e
        ·exact HDI.out g (e ▸ h1) h2
        ·have h3:=(own_lt2 HW6.out h2).2
         rw [e] at h1
         have h4:(w6.alloc (.cells #[.int .i64 al] 3)).heap.size=g:=by simpa using h1
         omega)
       have hlt7:=fun g (hg:v7.ownBlock=some g)=>(own_lt2 ho8 hg).2
       have HO7:=Lib.hid ho8
       obtain ⟨g7,cap7,rfl,hg7b,hc7,hnu7⟩:=ints_form ho8 (alL_len f By i (k+1)).symm (by omega)
       have c8:w7.cell? ⟨g7,k,none⟩=some (.int .i64 al):=by
        have h:=hnu7.cell (i:=k) (by rw [alL_len]; omega)
        rw [HAK.out] at h
        exact h
       have HW8:=Lib.hid (HW7.out.alloc (.cells #[.int .i64 (i:Int),.int .i64 (k:Int)] 58))
       have HO8:=Lib.hid (HO7.out.alloc (.cells #[.int .i64 (i:Int),.int .i64 (k:Int)] 58))
       have HNW2:=Lib.hid (fun (j:Nat) (u:Value) (hu:[Value.int .i64 (i:Int),Value.int .i64 (k:Int)][j]?=some u)=>World.news_of_block (heap_alloc_new w7 (.cells #[.int .i64 (i:Int),.int .i64 (k:Int)] 58)) j u (by simpa using hu))
       have HBZ2:=Lib.hid (show B≤(w7.alloc (.cells #[.int .i64 (i:Int),.int .i64 (k:Int)] 58)).heap.size from by have:=HX7.out.size; have:=HB.out; simp; omega)
       clear ho7 hg7 hb7 ho8 hnu7 hlt7)
    | fail)
    go_roundw
    case rel=>exact ⟨k+1,_,_,_,rfl,rfl,rfl,by go_num,by omega,fun h=>by omega,HO7.out,by rw [HS3.out]; exact HW7.out,HD7.out,HX7.out⟩
    case measure=>simp [intOf] <;> omega
  ·have dlt:decide ((k:Int) < (np:Int))=false:=by simp; omega
   obtain rfl:k=np:=by omega
   have HIR:=Lib.hid (ints_R HO.out HK0.out HWB.out)
   obtain ⟨ya,yc,hye⟩:=own_form2 HW.out
   have hwl:=waL_len f By i k
   have HWA:=Lib.hid (PlAt.own HW.out (by omega))
   obtain ⟨S,hS⟩:∃ S,waL f By i k=S:=⟨_,rfl⟩
   have HSW:=Lib.hid hS
   rw [hS] at hwl HRF
   obtain ⟨wn,hwn⟩:∃ wn,S.length=wn:=⟨_,rfl⟩
   have HWN:=Lib.hid hwn
   rw [hS,hwn] at hye
   rw [hwn] at hwl HRF
   subst hye
   have c9:wl.cell? ⟨X,9,none⟩=some (.slice (some ⟨gr,0,none⟩) n rcap):=HBX.out.cell 9 rfl
   obtain ⟨r,hr⟩:∃ r,at0 R i=r:=⟨_,rfl⟩
   have cr:wl.cell? ⟨gr,i,none⟩=some (.int .i64 r):=by rw [← hr]; exact (HR.out.ext (HE.out.trans HXL.out)).cell (by rw [HRL.out]; exact hi)
   rw [hr] at HRF
   clear hr hS hwn
   by_cases hri:r=(i:Int)
   ·have HF:=Lib.hid (show roleF N D R f By i=alL f By i k from by rw [HRF.out,if_neg (fun h=>h.1 hri)])
    subst hri
    go_wp2_with fail
    go_ret
    exact ⟨_,rfl,by rw [HF.out]; exact HIR.out,HE.out.trans HXL.out⟩
   ·have dri:decide (r=(i:Int))=false:=by simpa using hri
    have bri:(r == (i:Int))=false:=by simpa using hri
    by_cases hw0:wn=0
    ·have HF:=Lib.hid (show roleF N D R f By i=alL f By i k from by rw [HRF.out,if_neg (fun h=>by omega)])
     subst hw0
     go_wp2_with fail
     go_ret
     exact ⟨_,rfl,by rw [HF.out]; exact HIR.out,HE.out.trans HXL.out⟩
    ·have hw1:0 < wn:=by omega
     have dw1:decide ((wn:Int) > 0)=true:=by simp; omega
     have dw2:decide ((0:Int) < (wn:Int))=true:=by simp; omega
     have hmm:=minF_mem (nearP N D f By) S (by rw [HWN.out]; omega)
     rw [← HSW.out] at hmm
     obtain ⟨j,hj,hmj,-⟩:=waL_mem hmm
     rw [HSW.out] at hmj
     have HF:=Lib.hid (show roleF N D R f By i=(alL f By i k).set j 3 from by rw [HRF.out,if_pos ⟨hri,hw1⟩,hmj]; simp)
     obtain ⟨gu,ucap,rfl,hgu,huc,hnu⟩:=ints_form HO.out (alL_len f By i k).symm (by omega)
     have HNU:=Lib.hid hnu
     have HGU:=Lib.hid (Nat.le_trans HWB.out hgu)
     have HMJ:=Lib.hid hmj
     obtain ⟨pa2,pcap2,hpe2,hpm2,hpf2⟩:=id HWA.out
     obtain ⟨gy,oy,rfl,-⟩:=hpf2 (by rw [HSW.out,HWN.out]; exact hw1)
     have HPA:=Lib.hid (show PlAt wl (.slice (some ⟨gy,oy,none⟩) wn yc) S from by
      have h:=HWA.out
      rw [HSW.out] at h
      have e:pcap2=yc∧ya=some ⟨gy,oy,none⟩:=by
       rw [HSW.out] at hpe2
       simp only [Value.slice.injEq] at hpe2
       exact ⟨hpe2.2.2.symm,hpe2.1⟩
      rw [e.2] at h
      exact h)
     obtain rfl:ya=some ⟨gy,oy,none⟩:=by simp only [Value.slice.injEq] at hpe2; exact hpe2.1
     clear hmm hmj hnu hpe2 hpm2 hpf2 hgu HIR
     go_wp2_with (first
      | fail
      | ((with_reducible refine at_load 79 ?_); refine wpList_load_row rfl 79 _ rfl X rfl 79 #[.int .i64 t0,.int .i64 t1,.int .i64 t2,.int .i64 t3,.int .i64 hold,.int .i64 room,.int .i64 age,.slice (some ⟨nb,no,none⟩) n ncap,sv,.slice (some ⟨gr,0,none⟩) n rcap,.slice (some ⟨gf,0,none⟩) n n,.map (some mb),.slice (some ⟨yb,yo,none⟩) yn ycap] (0,0) _ HBX.out Try.underlying79 rfl size_view ?_))
     refine (minn_any (nearP N D f By) wn yc gy oy S wl (.agg #[.int .i64 t0,.int .i64 t1,.int .i64 t2,.int .i64 t3,.int .i64 hold,.int .i64 room,.int .i64 age,.slice (some ⟨nb,no,none⟩) n ncap,sv,.slice (some ⟨gr,0,none⟩) n rcap,.slice (some ⟨gf,0,none⟩) n n,.map (some mb),.slice (some ⟨yb,yo,none⟩) yn ycap]) HPA.out HWN.out ⟨by omega,by omega⟩ (fun a b w' ha hb hx=>by
      rw [← HSW.out] at ha hb
      obtain ⟨j1,hj1,rfl,s1,hs1⟩:=waL_mem ha
      obtain ⟨j2,hj2,rfl,s2,hs2⟩:=waL_mem hb
      obtain ⟨p1,p2,a1,a2,a3,a4⟩:=HFB.out _ _ hs1
      obtain ⟨q1,q2,b1,b2,b3,b4⟩:=HFB.out _ _ hs2
      rw [HNL.out] at a2 b2
      have HX:=HE.out.trans (HXL.out.trans hx)
      exact nearer_any t0 t1 t2 t3 hold room age nb no n ncap gf mb mn yb yo yn ycap i j1 i j2 s1.toNat s2.toNat (By.getD s1.toNat (0,0)).1.toNat (By.getD s1.toNat (0,0)).2.toNat (By.getD s2.toNat (0,0)).1.toNat (By.getD s2.toNat (0,0)).2.toNat sv (.slice (some ⟨gr,0,none⟩) n rcap) N D f By w' (HN.out.ext HX) HNL.out H5.out (HD.out.ext HX) HDL.out HDC.out HCO.out (HSM.out.ext HX) (RowAt.ext HY.out HX) HYL.out hi (by rw [HNP.out]; exact hj1) hi (by rw [HNP.out]; exact hj2) (by omega) (by omega) (by rw [Int.toNat_of_nonneg p1]; exact hs1) (by rw [Int.toNat_of_nonneg q1]; exact hs2) (by omega) (by omega)
       (Prod.ext (Int.toNat_of_nonneg a1).symm (Int.toNat_of_nonneg a3).symm) (Prod.ext (Int.toNat_of_nonneg b1).symm (Int.toNat_of_nonneg b3).symm) ⟨by omega,by omega⟩ ⟨by omega,by omega⟩)).mono ?_
     rintro e w7 ⟨rfl,hx7⟩
     rw [HMJ.out]
     have hce:=HNU.out.ext hx7
     have cj:w7.cell? ⟨gu,j,none⟩=some (.int .i64 (at0 (alL f By i k) j)):=hce.cell (by rw [alL_len]; exact hj)
     have fj:=hce.froz j
     have HN9:=Lib.hid (hce.set (p:=j) (by rw [alL_len]; exact hj) 3)
     have HX9:=Lib.hid ((HE.out.trans (HXL.out.trans hx7)).setCell (p:=⟨gu,j,none⟩) HGU.out (.int .i64 3))
     have hjk:(j:Int) < (k:Int):=by omega
     have hfd:=fun w=>field_port w (i:Int) (j:Int)
     clear hce hx7
     go_wp2_with fail
     go_ret
     exact ⟨_,rfl,by rw [HF.out]; exact .inr ⟨gu,ucap,by rw [List.length_set,alL_len]; rfl,HN9.out,by rw [List.length_set,alL_len]; exact huc,HGU.out⟩,HX9.out⟩
end Go.Proofs.Ytamnmjckhicapaa
namespace Go.Proofs.Ytamnmjckhicapaa
open Go.RowKit Go.BigFrame Go.WideShapes Go.ChangeShapes Go.Deep
set_option linter.unusedVariables false
set_option linter.unusedSimpArgs false
set_option maxRecDepth 100000
def Conn (n:Nat) (L:List Hp) (a b:Nat):Prop:=∃ q,Walk n L a b q
def Sym (n:Nat) (L:List Hp):Prop:=∀ h ∈ L,h.ok n=true→∃ h' ∈ L,h'.ok n=true∧h'.f=h.t∧h'.t=h.f
theorem Conn.refl (n:Nat) (L:List Hp) (a:Nat):Conn n L a a:=⟨_,.here⟩
theorem walk_trans {n:Nat} {L:List Hp} {a b c:Nat} {p q:Nat × Nat} (h:Walk n L a b p) (k:Walk n L b c q):Conn n L a c:=by
 induction k with
 | here=>exact ⟨_,h⟩
 | hop _ h1 h2 h3 ih =>
  obtain ⟨r,hr⟩:=ih
  exact ⟨_,.hop hr h1 h2 h3⟩
theorem Conn.trans {n:Nat} {L:List Hp} {a b c:Nat} (h:Conn n L a b) (k:Conn n L b c):Conn n L a c:=by
 obtain ⟨p,hp⟩:=h
 obtain ⟨q,hq⟩:=k
 exact walk_trans hp hq
theorem Conn.symm {n:Nat} {L:List Hp} (hs:Sym n L) {a b:Nat} (h:Conn n L a b):Conn n L b a:=by
 obtain ⟨p,hp⟩:=h
 induction hp with
 | here=>exact Conn.refl n L _
 | @hop i q g _ h1 h2 h3 ih =>
  obtain ⟨g',g1,g2,g3,g4⟩:=hs g h1 h2
  have hr:=ok_t h2
  have e1:g'.t.toNat=i:=by rw [g4,h3]; exact Int.toNat_natCast i
  have e2:g'.f=((g.t.toNat:Nat):Int):=by rw [g3]; omega
  have st:Conn n L g.t.toNat g'.t.toNat:=⟨_,.hop .here g1 g2 e2⟩
  rw [e1] at st
  exact st.trans ih
theorem far_walk {n:Nat} {L:List Hp} {s k:Nat} {q:Nat × Nat} (hs:s < n) (h:(farF n L s).getD k Option.none=Option.some q):Walk n L s k q∧q.2≤n:=(rnds_best hs n (L:=L)).1 k q h
theorem walk_cost {n:Nat} {L:List Hp} {s k M:Nat} {q:Nat × Nat} (h:Walk n L s k q) (hM:∀ h ∈ L,h.c.toNat≤M):q.1≤q.2*M:=by
 induction h with
 | here=>simp
 | @hop i q g _ h1 h2 h3 ih =>
  have:=hM g h1
  unfold hopW
  dsimp only
  rw [Nat.add_mul,Nat.one_mul]
  omega
theorem partK_conn (n:Nat) (L:List Hp):∀ i,i≤n→∀ j,j < n→0≤at0 (partK n L i) j→Conn n L (at0 (partK n L i) j).toNat j
 | 0,_,j,hj,h0=>by simp [partK,at0,List.getD,hj] at h0
 | i+1,hi,j,hj,h0=>by
  have ih:=partK_conn n L i (by omega) j hj
  have hl:=partK_len n L i
  unfold partK at h0 ⊢
  split
  ·rename_i hz
   rw [if_pos hz] at h0
   exact ih h0
  ·rename_i hz
   rw [if_neg hz] at h0
   rw [markK_at i (farF n L i) (partK n L i) j n (by omega)] at h0 ⊢
   split
   ·rename_i hc
    rw [Int.toNat_natCast]
    cases hq:(farF n L i).getD j Option.none with
    | none=>rw [hq] at hc; simp at hc
    | some q=>exact ⟨q,(far_walk (by omega) hq).1⟩
   ·rename_i hc
    rw [if_neg hc] at h0
    exact ih h0
theorem partF_conn (n:Nat) (L:List Hp) (j:Nat) (hj:j < n):Conn n L (at0 (partF n L) j).toNat j:=partK_conn n L n (Nat.le_refl _) j hj (partF_rng n L j hj).1
theorem set_conn {n:Nat} {L:List Hp} {l:List Int} {p:Nat} {v:Int} (hp:p < l.length) (h:∀ j,j < n→Conn n L (at0 l j).toNat j) (hv:Conn n L v.toNat p):∀ j,j < n→Conn n L (at0 (l.set p v) j).toNat j:=fun j hj=>by
 rw [at_set _ _ _ _ hp]
 split
 ·rename_i e
  subst e
  exact hv
 ·exact h j hj
theorem rootA_conn (N:List Nd) (n:Nat) (L:List Hp) (hs:Sym n L):∀ i,i≤n→∀ j,j < n→Conn n L (at0 (rootA N (partF n L) i) j).toNat j
 | 0,_=>fun j hj=>partF_conn n L j hj
 | i+1,hi=>by
  have ih:=rootA_conn N n L hs i (by omega)
  have hb:=partF_rng n L i (by omega)
  unfold rootA
  split
  ·refine set_conn (by rw [rootA_len,partF_len]; omega) ih ?_
   rw [Int.toNat_natCast]
   exact (partF_conn n L i (by omega)).symm hs
  ·exact ih
theorem rootB_conn (n:Nat) (L:List Hp) (A:List Int) (hA:A.length=n) (h0:∀ j,j < n→Conn n L (at0 A j).toNat j):∀ i,i≤n→∀ j,j < n→Conn n L (at0 (rootB (partF n L) A i) j).toNat j
 | 0,_=>h0
 | i+1,hi=>by
  have ih:=rootB_conn n L A hA h0 i (by omega)
  have hb:=partF_rng n L i (by omega)
  unfold rootB
  exact set_conn (by rw [rootB_len]; omega) ih ((ih _ (by omega)).trans (partF_conn n L i (by omega)))
theorem rootF_conn (N:List Nd) (n:Nat) (L:List Hp) (hs:Sym n L) (j:Nat) (hj:j < n):Conn n L (at0 (rootF N (partF n L)) j).toNat j:=by
 unfold rootF
 rw [partF_len]
 exact rootB_conn n L _ (by rw [rootA_len,partF_len]) (rootA_conn N n L hs n (Nat.le_refl _)) n (Nat.le_refl _) j hj
end Go.Proofs.Ytamnmjckhicapaa
namespace Go.Proofs.Ytamnmjckhicapaa
open Go.RowKit Go.BigFrame Go.WideShapes Go.ChangeShapes Go.Deep
set_option linter.unusedVariables false
set_option linter.unusedSimpArgs false
set_option maxRecDepth 100000
theorem compact_in {zs:List Int} {x:Int} (h:x ∈ Lib.compact zs):x ∈ zs:=by
 unfold Lib.compact Lib.compactUpTo at h
 obtain ⟨j,hj,rfl⟩:=List.mem_map.1 h
 have hl:=List.mem_range.1 (List.mem_filter.1 hj).1
 have e:zs.toArray[j]! = zs[j]:=by simp [hl]
 rw [e]
 exact List.getElem_mem hl
theorem in_compact {zs:List Int}:∀ j,j < zs.length→zs.toArray[j]! ∈ Lib.compact zs
 | 0,hj=>List.mem_map.2 ⟨0,List.mem_filter.2 ⟨List.mem_range.2 hj,Lib.keeps_lt_one _ 0 (by decide)⟩,rfl⟩
 | j+1,hj=>by
  by_cases e:zs.toArray[j+1]! = zs.toArray[j]!
  ·rw [e]
   exact in_compact j (by omega)
  ·exact List.mem_map.2 ⟨j+1,List.mem_filter.2 ⟨List.mem_range.2 hj,Lib.keeps_pos (by simpa using e)⟩,rfl⟩
theorem mem_brF {seg:List Pl} {x:Int}:x ∈ brF seg↔∃ p ∈ seg,p.1=x:=by
 unfold brF
 constructor
 ·intro h
  have h1:=compact_in h
  rw [List.mem_mergeSort] at h1
  obtain ⟨p,hp,e⟩:=List.mem_map.1 h1
  exact ⟨p,hp,e⟩
 ·rintro ⟨p,hp,rfl⟩
  have h1:p.1 ∈ (seg.map Prod.fst).mergeSort (fun x y=>!ltI y x):=List.mem_mergeSort.2 (List.mem_map_of_mem hp)
  generalize (seg.map Prod.fst).mergeSort (fun x y=>!ltI y x)=zs at h1 ⊢
  obtain ⟨j,hj,e⟩:=List.getElem_of_mem h1
  have h2:=in_compact j hj
  have e2:zs.toArray[j]! = p.1:=by rw [← e]; simp [hj]
  rw [e2] at h2
  exact h2
theorem mem_hopsF {N:List Nd} {S:List (List Pl)} {h:Hp}:h ∈ hopsF N S↔∃ seg ∈ S,h.f ∈ brF seg∧∃ p ∈ seg,p.1 ≠ h.f∧h=⟨h.f,p.1,costA N p⟩:=by
 unfold hopsF h2 h3
 simp only [List.mem_flatMap,List.mem_map,List.mem_filter]
 constructor
 ·rintro ⟨seg,hs,f,hf,p,⟨hp,hne⟩,rfl⟩
  exact ⟨seg,hs,hf,p,hp,by simpa using hne,rfl⟩
 ·rintro ⟨seg,hs,hf,p,hp,hne,e⟩
  exact ⟨seg,hs,h.f,hf,p,⟨hp,by simpa using hne⟩,e.symm⟩
theorem hopsF_sym (n:Nat) (N:List Nd) (S:List (List Pl)):Sym n (hopsF N S):=fun h hh hok=>by
 obtain ⟨seg,hs,hf,p,hp,hne,e⟩:=mem_hopsF.1 hh
 obtain ⟨p',hp',e'⟩:=mem_brF.1 hf
 have et:h.t=p.1:=by rw [e]
 have hr:=ok_t hok
 refine ⟨⟨p.1,p'.1,costA N p'⟩,mem_hopsF.2 ⟨seg,hs,mem_brF.2 ⟨p,hp,rfl⟩,p',hp',by show p'.1 ≠ p.1; rw [e']; exact fun h=>hne h.symm,rfl⟩,?_,et.symm,e'⟩
 unfold Hp.ok
 simp only [Bool.and_eq_true,decide_eq_true_eq]
 rw [← et,e']
 omega
theorem wayA_or (r:Nat) (R:List Int) (D W:List Way) (j:Nat) (x:Nat × Nat):∀ k,(wayA r R D W k).getD j Option.none=Option.some x→W.getD j Option.none=Option.some x∨D.getD j Option.none=Option.some x
 | 0,h=>.inl h
 | k+1,h=>by
  unfold wayA at h
  split at h
  ·rw [getD_setW] at h
   split at h
   ·rename_i e
    rw [← e.1]
    rw [← e.1] at *
    exact .inr h
   ·exact wayA_or r R D W j x k h
  ·exact wayA_or r R D W j x k h
theorem wayF_cost {n:Nat} {L:List Hp} {R:List Int} {M:Nat} (hM:∀ h ∈ L,h.c.toNat≤M) {j:Nat} {x:Nat × Nat}:∀ i,i≤n→(wayK n L R i).getD j Option.none=Option.some x→x.1≤n*M
 | 0,_,h=>by
  unfold wayK at h
  simp only [List.getD_eq_getElem?_getD,List.getElem?_replicate] at h
  split at h
  ·have e:((0,0):Nat × Nat)=x:=by simpa using h
   rw [← e]
   exact Nat.zero_le _
  ·simp at h
 | i+1,hi,h=>by
  unfold wayK at h
  split at h
  ·rcases wayA_or i R _ _ j x n h with h1 | h1
   ·exact wayF_cost hM i (by omega) h1
   ·obtain ⟨h2,h3⟩:=far_walk (by omega) h1
    exact Nat.le_trans (walk_cost h2 hM) (Nat.mul_le_mul_right M h3)
  ·exact wayF_cost hM i (by omega) h
end Go.Proofs.Ytamnmjckhicapaa
namespace Go.Proofs.Ytamnmjckhicapaa
open Go.RowKit Go.BigFrame Go.WideShapes Go.ChangeShapes Go.Deep
set_option linter.unusedVariables false
set_option linter.unusedSimpArgs false
set_option maxRecDepth 100000
def putS (s:Int) (f:Pl→Option Int):List Pl→Pl→Option Int
 | []=>f
 | a :: l=>putS s (fun x=>if x=a then some s else f x) l
theorem putS_snoc (s:Int) (a:Pl):∀ (l:List Pl) (f:Pl→Option Int),putS s f (l ++ [a])=fun x=>if x=a then some s else putS s f l x
 | [],_=>rfl
 | _ :: l,_=>putS_snoc s a l _
theorem putS_some (s:Int):∀ (l:List Pl) (f:Pl→Option Int) (x:Pl) (v:Int),putS s f l x=some v→f x=some v∨(v=s∧x ∈ l)
 | [],_,_,_,h=>.inl h
 | a :: l,f,x,v,h=>by
  rcases putS_some s l _ x v h with h1 | ⟨h1,h2⟩
  ·by_cases e:x=a
   ·rw [if_pos e] at h1
    exact .inr ⟨by simpa using h1.symm,by rw [e]; exact List.mem_cons_self⟩
   ·rw [if_neg e] at h1
    exact .inl h1
  ·exact .inr ⟨h1,List.mem_cons_of_mem _ h2⟩
def segK (S:List (List Pl)):Nat→Pl→Option Int
 | 0=>fun _=>none
 | s+1=>putS s (segK S s) (S.getD s [])
def segF (S:List (List Pl)):Pl→Option Int:=segK S S.length
theorem segK_some (S:List (List Pl)):∀ (k:Nat) (a:Pl) (v:Int),segK S k a=some v→∃ s:Nat,v=s∧s < k∧a ∈ S.getD s []
 | 0,_,_,h=>by cases h
 | k+1,a,v,h=>by
  rcases putS_some _ _ _ a v h with h1 | ⟨h1,h2⟩
  ·obtain ⟨s,e,hs,hm⟩:=segK_some S k a v h1
   exact ⟨s,e,by omega,hm⟩
  ·exact ⟨k,h1,by omega,h2⟩
structure Pn where
 root:List Int
 cost:List Int
 by_:List Pl
 roles:List (List Int)
 deriving DecidableEq
def waysOf (N:List Nd) (S:List (List Pl)):List Way:=wayF N.length (hopsF N S) (rootF N (partF N.length (hopsF N S)))
def rootsOf (N:List Nd) (S:List (List Pl)):List Int:=rootF N (partF N.length (hopsF N S))
def byOf (N:List Nd) (S:List (List Pl)):List Pl:=S.map (desF N (waysOf N S))
def planF (N:List Nd) (S:List (List Pl)):Pn :=
 ⟨(rootsOf N S).map (fun r=>idA N r.toNat),(List.range N.length).map (fun i=>((costW (waysOf N S) i:Nat):Int)),byOf N S,(List.range N.length).map (roleF N (waysOf N S) (rootsOf N S) (segF S) (byOf N S))⟩
theorem byOf_len (N:List Nd) (S:List (List Pl)):(byOf N S).length=S.length:=by simp [byOf]
theorem byOf_at (N:List Nd) (S:List (List Pl)) {s:Nat} (hs:s < S.length):(byOf N S).getD s (0,0)=desF N (waysOf N S) (S.getD s []):=by
 unfold byOf
 rw [List.getD_eq_getElem?_getD,List.getD_eq_getElem?_getD,List.getElem?_map,List.getElem?_eq_getElem hs]
 rfl
theorem desF_mem {N:List Nd} {D:List Way} {seg:List Pl} (h:1≤seg.length):desF N D seg ∈ seg:=by
 unfold desF
 rw [if_neg (by omega)]
 exact minF_mem _ _ h
theorem segF_ok {N:List Nd} {S:List (List Pl)} (hok:∀ seg ∈ S,∀ p ∈ seg,PlOk N p) {a:Pl} {v:Int} (h:segF S a=some v):0≤v∧v < S.length∧PlOk N ((byOf N S).getD v.toNat (0,0)):=by
 obtain ⟨s,rfl,hs,hm⟩:=segK_some S S.length a v h
 refine ⟨by omega,by omega,?_⟩
 rw [Int.toNat_natCast,byOf_at N S hs]
 have hseg:S.getD s [] ∈ S:=by
  rw [List.getD_eq_getElem?_getD,List.getElem?_eq_getElem hs]
  exact List.getElem_mem hs
 refine hok _ hseg _ (desF_mem ?_)
 cases hl:S.getD s [] with
 | nil=>rw [hl] at hm; cases hm
 | cons x l=>simp
theorem byOf_rg {N:List Nd} {S:List (List Pl)} (hok:∀ seg ∈ S,∀ p ∈ seg,PlOk N p) (hN:N.length≤1000) (hP:∀ x ∈ N,x.ports.length≤1000):∀ b ∈ byOf N S,PRg b:=fun b hb=>by
 unfold byOf at hb
 obtain ⟨seg,hs,rfl⟩:=List.mem_map.1 hb
 by_cases h0:seg.length=0
 ·unfold desF
  rw [if_pos h0]
  unfold PRg
  simp only
  omega
 ·obtain ⟨h1,h2,h3,h4⟩:=hok seg hs _ (desF_mem (N:=N) (D:=waysOf N S) (seg:=seg) (by omega))
  have hi:(desF N (waysOf N S) seg).1.toNat < N.length:=by omega
  have h5:((N.getD (desF N (waysOf N S) seg).1.toNat default).ports.length)≤1000:=by
   rw [List.getD_eq_getElem?_getD,List.getElem?_eq_getElem hi]
   exact hP _ (List.getElem_mem hi)
  unfold PRg
  omega
end Go.Proofs.Ytamnmjckhicapaa
namespace Go.Proofs.Ytamnmjckhicapaa
open Go.RowKit Go.BigFrame Go.WideShapes Go.ChangeShapes Go.Deep
set_option linter.unusedVariables false
set_option linter.unusedSimpArgs false
set_option maxRecDepth 100000
theorem info_pls:(Try.prog.info? 39).map (fun i=>(i.zero,i.size,i.bytes))=some (some (.slice Option.none 0 0),1,24):=by kernel_rfl
def raisedF (U:List Bool) (S:List (List Pl)) (i:Nat):List Pl:=if U.getD i false then S.getD i [] else []
def raisedL (U:List Bool) (S:List (List Pl)):List (List Pl):=(List.range S.length).map (raisedF U S)
theorem raisedL_len (U:List Bool) (S:List (List Pl)):(raisedL U S).length=S.length:=by simp [raisedL]
theorem raisedL_at (U:List Bool) (S:List (List Pl)) {i:Nat} (hi:i < S.length):(raisedL U S).getD i []=raisedF U S i:=by
 simp [raisedL,List.getD_eq_getElem?_getD,hi]
set_option maxRecDepth 100000 in
set_option maxHeartbeats 4000000 in
theorem raised_any (t0 t1 t2 t3 hold room age:Int) (nv sv uv:Value) (S:List (List Pl)) (U:List Bool) (w:World) (hs:SegsAt w sv S) (hu:BoolsAt w uv U) (hn:1≤S.length∧S.length≤100) :
    Calls Try.prog 18 #[(.agg #[.int .i64 t0,.int .i64 t1,.int .i64 t2,.int .i64 t3,.int .i64 hold,.int .i64 room,.int .i64 age,nv,sv]),uv] w fun e w'=>∃ v,e=.returned v∧SegsAt w' v (raisedL U S)∧Ext w w':=by
 obtain ⟨sg,⟨sa,scap,rfl,hsm,hsf⟩,hpl⟩:=hs
 obtain ⟨ua,ucap,rfl,hum,huf⟩:=hu
 obtain ⟨i1,hi1,hz1,hs1,hb1⟩:=info_parts info_pls
 have I1:=Lib.hid (And.intro hi1 (And.intro hz1 (And.intro hs1 hb1)))
 obtain ⟨n,hnn⟩:∃ n,S.length=n:=⟨_,rfl⟩
 obtain ⟨m,hmm⟩:∃ m,U.length=m:=⟨_,rfl⟩
 rw [hnn] at hn hsm hsf ⊢
 rw [hmm] at hum huf ⊢
 obtain ⟨sb,so,rfl,hsb,hs2,hs3,hs4⟩:=hsf (by omega)
 have HS4:=Lib.hid hs4
 have HUF:=Lib.hid huf
 have HPL:=Lib.hid hpl
 have HNN:=Lib.hid hnn
 have HMM:=Lib.hid hmm
 have hn1:=hn.1
 have hn2:=hn.2
 clear hi1 hz1 hs1 hb1 hsf huf hs4 hpl hnn hmm hn
 go_enter Try.func18,Try.ntmps18
 go_wp2_with (first
  | fail
  | ((with_reducible refine at_box 47 ?_); refine bx_row rfl 47 _ rfl #[.int .i64 t0,.int .i64 t1,.int .i64 t2,.int .i64 t3,.int .i64 hold,.int .i64 room,.int .i64 age,nv,.slice (some ⟨sb,so,none⟩) n scap] rfl ?_
     intro X wb hX hsz hx1
     have HX:=Lib.hid (show BoxAt wb X #[.int .i64 t0,.int .i64 t1,.int .i64 t2,.int .i64 t3,.int .i64 hold,.int .i64 room,.int .i64 age,nv,.slice (some ⟨sb,so,none⟩) n scap] 47 from hX)
     have cS:wb.cell? ⟨X,8,none⟩=some (.slice (some ⟨sb,so,none⟩) n scap):=HX.out.cell 8 rfl
     have HE:=Lib.hid hx1
     clear hX hsz hx1)
  | (at_make; refine wpList_make_row _ rfl _ _ 45 rfl 39 i1 (.slice Option.none 0 0) Try.underlying45 I1.out.1 I1.out.2.1 I1.out.2.2.1 rfl .i64 .i64 n rfl rfl (by rw [I1.out.2.2.2]; omega) (by omega) ?_
     have hy:Ext wb (wb.alloc (.cells (madeCells #[.slice Option.none 0 0] n) 39)):=(Ext.refl _).alloc _
     have hq:=heap_alloc_new wb (.cells (madeCells #[.slice Option.none 0 0] n) 39)
     obtain ⟨w2,hw2⟩:∃ w2,wb.alloc (.cells (madeCells #[.slice Option.none 0 0] n) 39)=w2:=⟨_,rfl⟩
     obtain ⟨T,hT⟩:∃ T,wb.heap.size=T:=⟨_,rfl⟩
     rw [hw2] at hy hq ⊢
     rw [hT] at hq ⊢
     rw [made_rep] at hq
     have HQ:=Lib.hid (show w2.heap[T]?=some (.cells (List.replicate n (Value.slice Option.none 0 0)).toArray 39 (0,0)) from hq)
     have HE2:=Lib.hid (HE.out.trans hy)
     have HT:=Lib.hid (show w.heap.size≤T by rw [← hT]; exact HE.out.size)
     have cS2:w2.cell? ⟨X,8,none⟩=some (.slice (some ⟨sb,so,none⟩) n scap):=(HX.out.ext hy).cell 8 rfl
     clear hy hq hw2 hT))
 go_loopw [15] (fun s wr=>∃ (k:Nat) (vs:List Value),s=.int .i64 k∧k≤n∧vs.length=n∧wr.heap[T]?=some (.cells vs.toArray 39 (0,0))∧(∀ i,i < k→vs[i]?=some (if U.getD i false then sg i else .slice none 0 0))∧(∀ i,k≤i→i < n→vs[i]?=some (.slice none 0 0))∧Ext w wr) (fun s _=>n - (intOf s).toNat)
 case atStart=>exact ⟨0,List.replicate n (.slice none 0 0),rfl,by omega,by simp,HQ.out,fun i hi=>by omega,fun i _ hi=>by simp [hi],HE2.out⟩
 case round =>
  obtain ⟨k,vs,rfl,hk,hvl,hq,hlo,hhi,hx⟩:=hrel
  rename World=>wl
  have HQ1:=Lib.hid hq
  have HLO:=Lib.hid hlo
  have HHI:=Lib.hid hhi
  have HXL:=Lib.hid hx
  clear hq hlo hhi hx cS cS2 HQ HX HE HE2
  by_cases hlt:k < n
  ·have dlt:decide ((k:Int) < (n:Int))=true:=by simp; omega
   have ck:wl.cell? ⟨sb,so+k,none⟩=some (sg k):=by
    have:=HS4.out k hlt
    rw [Nat.mul_one] at this
    exact (HXL.out.cell hsb).trans (range_one this (j:=0) rfl)
   have hup:IntKind.i64.wrap ((k:Int)+1)=((k+1:Nat):Int):=by rw [IntKind.wrap_i64]; omega
   by_cases hc:k < m∧U.getD k false=true
   ·have hkm:k < m:=hc.1
    have d1:decide ((k:Int) < (m:Int))=true:=by simp; omega
    obtain ⟨ub,uo,rfl,hub,hu2,hu3,hu4⟩:=HUF.out (by omega)
    have cu:wl.cell? ⟨ub,uo+k,none⟩=some (.bool true):=by
     have:=hu4 k hc.1
     rw [Nat.mul_one,hc.2] at this
     exact (HXL.out.cell hub).trans (range_one this (j:=0) rfl)
    have HC:=Lib.hid hc
    have hcell:(sg k).cells=#[sg k]:=by obtain ⟨_,_,h,_⟩:=HPL.out k (by have:=HNN.out; omega); rw [h]; rfl
    have hone:(#[sg k]:Array Value).toList.all (·.oneCell')=true:=by obtain ⟨_,_,h,_⟩:=HPL.out k (by have:=HNN.out; omega); rw [h]; rfl
    have hroom:k+(#[sg k]:Array Value).size≤vs.toArray.size:=by simp; omega
    have hset:=set_row (l:=vs) (f:=k) (v:=sg k) (by omega)
    have HSR:=Lib.hid (And.intro hcell (And.intro hone (And.intro hroom hset)))
    clear hu4 hc hcell hone hroom hset
    go_wp2_with (first
     | fail
     | ((with_reducible refine at_store 39 ?_); refine st_at rfl rfl 39 _ _ rfl T k _ #[sg k] vs.toArray (vs.set k (sg k)).toArray 39 rfl rfl HSR.out.1 HQ1.out HSR.out.2.2.1 (by kernel_rfl) HSR.out.2.1 HSR.out.2.2.2 ?_
        intro w5 hq5 hm5
        have HQ5:=Lib.hid hq5
        have HX5:=Lib.hid (HXL.out.mutE hm5 (fun n hn h=>by have h2:n=T:=h; have:=HT.out; omega))
        clear hq5 hm5))
    go_roundw
    case rel =>
     refine ⟨k+1,vs.set k (sg k),by go_num,by omega,by rw [List.length_set]; exact hvl,HQ5.out,fun i hi=>?_,fun i hi hin=>?_,HX5.out⟩
     ·by_cases hik:i=k
      ·subst hik
       rw [List.getElem?_set_self (by omega),if_pos HC.out.2]
      ·rw [List.getElem?_set_ne (by omega)]
       exact HLO.out i (by omega)
     ·rw [List.getElem?_set_ne (by omega)]
      exact HHI.out i (by omega) hin
    case measure=>simp [intOf] <;> omega
   ·have HC:=Lib.hid (show U.getD k false=false by
     by_cases hkm:k < m
     ·exact Bool.eq_false_iff.2 (fun h=>hc ⟨hkm,h⟩)
     ·rw [List.getD_eq_getElem?_getD,List.getElem?_eq_none (by have:=HMM.out; omega)]; rfl)
    have FIN:=Lib.hid (show (∀ i,i < k+1→vs[i]?=some (if U.getD i false then sg i else .slice none 0 0)) from fun i hi=>by
     by_cases hik:i=k
     ·subst hik
      rw [HC.out,HHI.out i (Nat.le_refl _) hlt]
      rfl
     ·exact HLO.out i (by omega))
    by_cases hkm:k < m
    ·have d1:decide ((k:Int) < (m:Int))=true:=by simp; omega
     obtain ⟨ub,uo,rfl,hub,hu2,hu3,hu4⟩:=HUF.out (by omega)
     have cu:wl.cell? ⟨ub,uo+k,none⟩=some (.bool false):=by
      have:=hu4 k hkm
      rw [Nat.mul_one,HC.out] at this
      exact (HXL.out.cell hub).trans (range_one this (j:=0) rfl)
     clear hu4 hc
     go_wp2_with fail
     go_roundw
     case rel=>exact ⟨k+1,vs,by go_num,by omega,hvl,HQ1.out,FIN.out,fun i hi hin=>HHI.out i (by omega) hin,HXL.out⟩
     case measure=>simp [intOf] <;> omega
    ·have d1:decide ((k:Int) < (m:Int))=false:=by simp; omega
     clear hc
     go_wp2_with fail
     go_roundw
     case rel=>exact ⟨k+1,vs,by go_num,by omega,hvl,HQ1.out,FIN.out,fun i hi hin=>HHI.out i (by omega) hin,HXL.out⟩
     case measure=>simp [intOf] <;> omega
  ·have dlt:decide ((k:Int) < (n:Int))=false:=by simp; omega
   obtain rfl:k=n:=by omega
   go_wp2_with fail
   go_ret
   refine ⟨_,rfl,⟨fun i=>if U.getD i false then sg i else .slice none 0 0,?_,fun i hi=>?_⟩,HXL.out⟩
   ·rw [raisedL_len,HNN.out]
    refine ⟨_,_,rfl,by omega,fun _=>⟨T,0,rfl,heap_lt HQ1.out,Nat.le_refl _,by omega,fun i hi=>?_⟩⟩
    rw [Nat.mul_one,Nat.zero_add]
    intro j v hv
    have hj:j=0:=by
     have:=(List.getElem?_eq_some_iff.1 hv).1
     simpa using this
    subst hj
    have hv2:(if U.getD i false then sg i else Value.slice none 0 0)=v:=by simpa using hv
    rw [cell_row HQ1.out,← hv2]
    have:=HLO.out i hi
    simpa using this
   ·rw [raisedL_len] at hi
    rw [raisedL_at U S hi]
    unfold raisedF
    dsimp only
    cases hU:U.getD i false with
    | true =>
     simp only [if_true]
     exact RowAt.ext (HPL.out i hi) HXL.out
    | false=>exact PlAt.nil wl
end Go.Proofs.Ytamnmjckhicapaa
namespace Go.Proofs.Ytamnmjckhicapaa
open Go.RowKit Go.BigFrame Go.WideShapes Go.ChangeShapes Go.Deep
set_option linter.unusedVariables false
set_option linter.unusedSimpArgs false
set_option maxRecDepth 100000
theorem getD_memD {α:Type} [Inhabited α] (l:List α) (k:Nat) (h:k < l.length):l.getD k default ∈ l:=by
 rw [List.getD_eq_getElem?_getD,List.getElem?_eq_getElem h]
 exact List.getElem_mem h
theorem hopsF_wf {N:List Nd} {S:List (List Pl)} (hok:∀ seg ∈ S,∀ p ∈ seg,PlOk N p) (hco:CostOk N) (hN:N.length≤1000):∀ h ∈ hopsF N S,h.wf:=fun h hh=>by
 obtain ⟨seg,hs,hf,p,hp,_,e⟩:=mem_hopsF.1 hh
 obtain ⟨p',hp',e'⟩:=mem_brF.1 hf
 have h1:=hok seg hs p hp
 have h2:=hok seg hs p' hp'
 have hc:=costA_ok hco h1
 have et:h.t=p.1:=by rw [e]
 have ec:h.c=costA N p:=by rw [e]
 unfold PlOk at h1 h2
 unfold Hp.wf
 rw [et,ec,← e']
 omega
theorem hopsF_cost {N:List Nd} {S:List (List Pl)} {M:Nat} (hok:∀ seg ∈ S,∀ p ∈ seg,PlOk N p) (hM:∀ x ∈ N,∀ q ∈ x.ports,q.cost≤M):∀ h ∈ hopsF N S,h.c.toNat≤M:=fun h hh=>by
 obtain ⟨seg,hs,hf,p,hp,_,e⟩:=mem_hopsF.1 hh
 have h1:=hok seg hs p hp
 have ec:h.c=costA N p:=by rw [e]
 obtain ⟨a1,a2,a3,a4⟩:=h1
 have i1:p.1.toNat < N.length:=by omega
 have i2:p.2.toNat < (N.getD p.1.toNat default).ports.length:=by omega
 have hx:=getD_memD N p.1.toNat i1
 have hq:=getD_memD (N.getD p.1.toNat default).ports p.2.toNat i2
 have h3:=hM _ hx _ hq
 rw [ec]
 unfold costA
 omega
theorem raisedL_ok {N:List Nd} {U:List Bool} {S:List (List Pl)} (hok:∀ seg ∈ S,∀ p ∈ seg,PlOk N p):∀ seg ∈ raisedL U S,∀ p ∈ seg,PlOk N p:=fun seg hs p hp=>by
 unfold raisedL at hs
 obtain ⟨i,hi,rfl⟩:=List.mem_map.1 hs
 have hl:=List.mem_range.1 hi
 unfold raisedF at hp
 split at hp
 ·have hm:S.getD i [] ∈ S:=by
   rw [List.getD_eq_getElem?_getD,List.getElem?_eq_getElem hl]
   exact List.getElem_mem hl
  exact hok _ hm p hp
 ·cases hp
theorem raisedL_small {U:List Bool} {S:List (List Pl)} {m:Nat} (h:∀ seg ∈ S,seg.length≤m):∀ seg ∈ raisedL U S,seg.length≤m:=fun seg hs=>by
 unfold raisedL at hs
 obtain ⟨i,hi,rfl⟩:=List.mem_map.1 hs
 have hl:=List.mem_range.1 hi
 unfold raisedF
 split
 ·have hm:S.getD i [] ∈ S:=by
   rw [List.getD_eq_getElem?_getD,List.getElem?_eq_getElem hl]
   exact List.getElem_mem hl
  exact h _ hm
 ·simp
theorem NodesAt.ids {w:World} {nb no n ncap:Nat} {N:List Nd} (h:NodesAt w (.slice (some ⟨nb,no,none⟩) n ncap) N) (hn:1≤n):nb < w.heap.size∧n≤ncap∧N.length=n∧∀ i,i < n→w.cell? ⟨nb,no+i*3,none⟩=some (.int .u64 (idA N i)):=by
 obtain ⟨pv,⟨na,nc,hne,hnm,hnf⟩,_⟩:=h
 simp only [Value.slice.injEq] at hne
 obtain ⟨e1,e2,e3⟩:=hne
 obtain ⟨nb',no',e4,hnb,hnc,_,hn4⟩:=hnf (by omega)
 rw [← e1] at e4
 simp only [Option.some.injEq,Addr.mk.injEq] at e4
 obtain ⟨rfl,rfl,-⟩:=e4
 refine ⟨hnb,by omega,e2.symm,fun i hi=>?_⟩
 have:=range_one (hn4 i (by omega)) (j:=0) rfl
 rw [Nat.add_zero] at this
 exact this
theorem waysOf_ok {N:List Nd} {S:List (List Pl)} {M:Nat} (hok:∀ seg ∈ S,∀ p ∈ seg,PlOk N p) (hM:∀ x ∈ N,∀ q ∈ x.ports,q.cost≤M) (hnM:N.length*M < 4294967296)
    (hso:∀ k,k < N.length→∃ x,(waysOf N S).getD k Option.none=Option.some x):∀ i,i < N.length→∃ x,(waysOf N S).getD i Option.none=Option.some x∧x.1 < 4294967296:=fun i hi=>by
 obtain ⟨x,hx⟩:=hso i hi
 exact ⟨x,hx,Nat.lt_of_le_of_lt (wayF_cost (hopsF_cost hok hM) N.length (Nat.le_refl _) hx) hnM⟩
theorem rootsOf_conn (N:List Nd) (S:List (List Pl)):∀ k,k < N.length→∃ q,Walk N.length (hopsF N S) (at0 (rootsOf N S) k).toNat k q:=fun k hk=>rootF_conn N N.length (hopsF N S) (hopsF_sym N.length N S) k hk
theorem rootsOf_rng (N:List Nd) (S:List (List Pl)):Rng N.length (rootsOf N S):=rootF_rng N _ N.length (partF_rng _ _) (partF_len _ _)
theorem rootsOf_len (N:List Nd) (S:List (List Pl)):(rootsOf N S).length=N.length:=by
 unfold rootsOf
 rw [rootF_len,partF_len]
theorem waysOf_len (N:List Nd) (S:List (List Pl)):(waysOf N S).length=N.length:=wayK_len _ _ _ _
end Go.Proofs.Ytamnmjckhicapaa
namespace Go.Proofs.Ytamnmjckhicapaa
open Go.RowKit Go.BigFrame Go.WideShapes Go.ChangeShapes Go.Deep
set_option linter.unusedVariables false
set_option linter.unusedSimpArgs false
set_option maxRecDepth 100000
def IntAt (k:IntKind) (w:World) (v:Value) (l:List Int):Prop:=RowAt w v l.length 1 (fun i=>[.int k (l.getD i 0)])
def RolesAt (w:World) (v:Value) (R:List (List Int)):Prop:=∃ rv:Nat→Value,RowAt w v R.length 1 (fun i=>[rv i])∧∀ i,i < R.length→IntsR w 0 (rv i) (R.getD i [])
def PlanAt (w:World) (v:Value) (p:Pn):Prop:=∃ a b c d,v=.agg #[a,b,c,d]∧IntAt .u64 w a p.root∧IntAt .u32 w b p.cost∧PlAt w c p.by_∧RolesAt w d p.roles
theorem RowAt.own {w:World} {base n:Nat} {e:TypeId} {v:Value} {xs:List Value} {f:Nat→List Value} (h:w.ownsRow base e 1 v n xs) (hn:n≤1000) (hxs:∀ i,i < n→∃ x,xs[i]?=some x∧f i=[x]):RowAt w v n 1 f:=by
 obtain ⟨a,cap,rfl⟩:=own_form2 h
 refine ⟨a,cap,rfl,by omega,fun h0=>?_⟩
 rcases h.2 with ⟨e,e2⟩ | ⟨g,cap2,cur,e,hb,hg,hn2,hm,hs,ht⟩
 ·omega
 ·cases e
  refine ⟨g,0,rfl,heap_lt hg,hn2,by unfold maxLen at hm; omega,fun i hi j v hv=>?_⟩
  obtain ⟨x,hx,hf⟩:=hxs i hi
  rw [hf] at hv
  have hj:j=0:=by
   have:=(List.getElem?_eq_some_iff.1 hv).1
   simp at this
   exact this
  subst hj
  have h2:=own_range h i x hx
  simp only [List.getElem?_cons_zero,Option.some.injEq] at hv
  subst hv
  rw [Nat.zero_add] at h2 ⊢
  rw [Nat.mul_one]
  exact h2
def kv (k:IntKind) (l:List Int):List Value:=l.map (Value.int k)
theorem IntAt.own {k:IntKind} {w:World} {base n:Nat} {e:TypeId} {v:Value} {l:List Int} (h:w.ownsRow base e 1 v n (kv k l)) (hl:l.length=n) (hn:n≤1000):IntAt k w v l:=by
 unfold IntAt
 rw [hl]
 refine RowAt.own h hn (fun i hi=>⟨.int k (l.getD i 0),?_,rfl⟩)
 unfold kv
 rw [List.getElem?_map,List.getD_eq_getElem?_getD,List.getElem?_eq_getElem (by omega)]
 rfl
theorem own_mut {w w':World} {base m n:Nat} {e:TypeId} {v:Value} {xs:List Value} {F:Nat→Prop} (h:w.ownsRow base e m v n xs) (hm:Mut F w w') (hF:∀ g,v.ownBlock=some g→¬ F g):w'.ownsRow base e m v n xs:=by
 refine ⟨h.1,?_⟩
 rcases h.2 with hn | ⟨g,cap,cur,rfl,hb,hg,rest⟩
 ·exact .inl hn
 ·exact .inr ⟨g,cap,cur,rfl,hb,(hm.heap (heap_lt hg) (hF g rfl)).trans hg,rest⟩
theorem grown_mut {w w':World} {row:Option Nat} (hg:w.grownBy w' row):Mut (fun g=>row=some g) w w':=⟨hg.os,hg.tape,hg.output,hg.size,fun k hk h=>hg.block k hk (fun e=>h e.symm)⟩
theorem app_fr {wl wn wa ws:World} {u:Value} {box:Nat} (h1:Ext wl wn) (h2:wn.grownBy wa u.ownBlock) (h3:Mut (fun g=>g=box) wa ws):Mut (fun g=>g=box∨u.ownBlock=some g) wl ws :=
 ((h1.mut _).trans ((grown_mut h2).mono (fun _ _ h=>.inr h))).trans (h3.mono (fun _ _ h=>.inl h))
theorem app_dis {wl wn:World} {u v' y:Value} {base m n:Nat} {e:TypeId} {xs:List Value} (hd:∀ g,u.ownBlock=some g→y.ownBlock ≠ some g) (hy:wl.ownsRow base e m y n xs) (hs:wl.heap.size≤wn.heap.size) (hl:v'.ownBlock=u.ownBlock∨v'.ownBlock=some wn.heap.size):∀ g,v'.ownBlock=some g→y.ownBlock ≠ some g:=fun g h1 h2=>by
 rcases hl with e | e
 ·exact hd g (e ▸ h1) h2
 ·have h3:=(own_lt2 hy h2).2
  rw [e] at h1
  have h4:wn.heap.size=g:=by simpa using h1
  omega
theorem app_dis2 {wl wn:World} {u v' y:Value} {base m n:Nat} {e:TypeId} {xs:List Value} (hd:∀ g,y.ownBlock=some g→u.ownBlock ≠ some g) (hy:wl.ownsRow base e m y n xs) (hs:wl.heap.size≤wn.heap.size) (hl:v'.ownBlock=u.ownBlock∨v'.ownBlock=some wn.heap.size):∀ g,y.ownBlock=some g→v'.ownBlock ≠ some g:=fun g h1 h2 =>
 app_dis (fun g a b=>hd g b a) hy hs hl g h2 h1
theorem Ext.app {w0 wl ws:World} {u:Value} {box base m n:Nat} {e:TypeId} {xs:List Value} (h0:Ext w0 wl) (hb:w0.heap.size≤box) (hw:wl.ownsRow base e m u n xs) (hbase:w0.heap.size≤base) (hm:Mut (fun g=>g=box∨u.ownBlock=some g) wl ws):Ext w0 ws :=
 h0.mutE hm (fun k hk h=>by
  rcases h with h | h
  ·omega
  ·have:=(own_lt2 hw h).1
   omega)
theorem Mut.app {a b c:World} {F G:Nat→Prop} (h:Mut F a b) (k:Mut G b c) (hG:∀ g,g < a.heap.size→G g→F g):Mut F a c :=
 ⟨k.1.trans h.1,k.2.1.trans h.2.1,k.2.2.1.trans h.2.2.1,Nat.le_trans h.size k.size,fun j hj hf=>(k.heap (Nat.lt_of_lt_of_le hj h.size) (fun hg=>hf (hG j hj hg))).trans (h.heap hj hf)⟩
theorem SegM.lt {w:World} {b n:Nat} {f:Pl→Option Int} (h:SegM w b n f):b < w.heap.size:=by
 obtain ⟨D,⟨es,clock,hb,_⟩,_⟩:=h
 exact heap_lt hb
theorem BoxAt.mut {w w':World} {X:Nat} {c:Array Value} {t:TypeId} {F:Nat→Prop} (h:BoxAt w X c t) (hm:Mut F w w') (hF:¬ F X):BoxAt w' X c t:=(hm.heap (heap_lt h) hF).trans h
theorem WRow.mut {w w':World} {g:Nat} {W:List Way} {F:Nat→Prop} (h:WRow w g W) (hm:Mut F w w') (hF:¬ F g):WRow w' g W:=(hm.heap (heap_lt h) hF).trans h
theorem RowAt.mut {w w':World} {v:Value} {n m:Nat} {f:Nat→List Value} {F:Nat→Prop} (h:RowAt w v n m f) (hm:Mut F w w') (hF:∀ a o n c,v=.slice (some ⟨a,o,none⟩) n c→¬ F a):RowAt w' v n m f:=by
 obtain ⟨a,cap,e,h1,h2⟩:=h
 refine ⟨a,cap,e,h1,fun h0=>?_⟩
 obtain ⟨b,off,e1,h3,h4,h5,h6⟩:=h2 h0
 refine ⟨b,off,e1,Nat.lt_of_lt_of_le h3 hm.size,h4,h5,fun i hi j u hu=>?_⟩
 rw [hm.cell h3 (hF b off _ _ (by rw [e,e1]))]
 exact h6 i hi j u hu
theorem wpList_mapU {ops:Array Oper} {rest:List Oper} {o:Oper} {a:Act} {w:World} {Q:Exit→Act→World→Prop} (hg:o.guard=none) (m x v:Operand) (hop:o.op=Op.mapUpdate 77 m x v) (b:Nat) (p:Pl) (s:Int) (hm:a.eval m=.map (some b)) (hx:a.eval x=plV p) (hv:a.eval v=.int .i64 s)
    {n:Nat} {f:Pl→Option Int} (h:SegM w b n f) (hn:n < maxLen) (ha:PRg p) (hs:-9223372036854775808≤s∧s < 9223372036854775808)
    (hK:∀ w',SegM w' b (n+1) (fun x=>if x=p then some s else f x)→w.grownBy w' (some b)→wpList Try.prog ops Q rest (a.put o.dst undef) w'):wpList Try.prog ops Q (o :: rest) a w:=by
 obtain ⟨w',hrun,h1,h2⟩:=h.put hn ha hs
 refine wpList_plain hg fun K hK'=>?_
 unfold Oper.wp
 simp [execOp,hop,hm,hx,hv,hrun,Result.andThen]
 exact hK' _ _ (hK w' h1 h2)
theorem PlAt.form {w:World} {base:Nat} {v:Value} {L:List Pl} (h:w.ownsRow base 58 2 v L.length (flatP L)) (h1:1≤L.length) (h3:L.length≤1000):∃ g cap,v=.slice (some ⟨g,0,none⟩) L.length cap∧base≤g∧PlAt w (.slice (some ⟨g,0,none⟩) L.length cap) L:=by
 have h2:=PlAt.own h h3
 rcases h.2 with ⟨e,e2⟩ | ⟨g,cap2,cur,e,hb,hg,hn,hm,hs,ht⟩
 ·omega
 ·subst e
  exact ⟨g,cap2,rfl,hb,h2⟩
theorem rtl_step (f:Nat→Int) (q:IntKind) (k:Nat):kv q ((List.range (k+1)).map f)=kv q ((List.range k).map f) ++ [.int q (f k)]:=by simp [kv,List.range_succ]
theorem range_at0 (f:Int→Int) (R:List Int):(List.range R.length).map (fun j=>f (at0 R j))=R.map f:=by
 refine List.ext_getElem (by simp) (fun i h1 h2=>?_)
 have h3:i < R.length:=by simpa using h2
 simp [at0,List.getD_eq_getElem?_getD,h3]
theorem IntsR.low {w:World} {b:Nat} {v:Value} {l:List Int} (h:IntsR w b v l):IntsR w 0 v l:=by
 rcases h with h | ⟨g,cap,h1,h2,h3,h4⟩
 ·exact .inl h
 ·exact .inr ⟨g,cap,h1,h2,h3,Nat.zero_le _⟩
theorem IntsR.one {w:World} {b:Nat} {v:Value} {l:List Int} (h:IntsR w b v l):∃ a cap,v=.slice a l.length cap:=by
 rcases h with ⟨rfl,rfl⟩ | ⟨g,cap,rfl,h2,h3,h4⟩
 ·exact ⟨_,_,rfl⟩
 ·exact ⟨_,_,rfl⟩
theorem IntsR.mut {w w':World} {b:Nat} {v:Value} {l:List Int} {F:Nat→Prop} (h:IntsR w b v l) (hm:Mut F w w') (hF:∀ g,v.ownBlock=some g→¬ F g):IntsR w' b v l:=by
 rcases h with h | ⟨g,cap,rfl,h2,h3,h4⟩
 ·exact .inl h
 ·obtain ⟨cur,hg,h5⟩:=h2
  exact .inr ⟨g,cap,rfl,⟨cur,(hm.heap (heap_lt hg) (hF g rfl)).trans hg,h5⟩,h3,h4⟩
theorem IntsR.blk {w:World} {b:Nat} {v:Value} {l:List Int} (h:IntsR w b v l) {g:Nat} (hg:v.ownBlock=some g):b≤g∧g < w.heap.size:=by
 rcases h with ⟨_,rfl⟩ | ⟨g2,cap,rfl,h2,h3,h4⟩
 ·simp [Value.ownBlock] at hg
 ·obtain rfl:g2=g:=by simpa [Value.ownBlock] using hg
  exact ⟨h4,h2.lt⟩
end Go.Proofs.Ytamnmjckhicapaa
