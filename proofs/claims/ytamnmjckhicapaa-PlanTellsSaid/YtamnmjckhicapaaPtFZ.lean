/- What PlanTells stands on, behind its chain. No statement is proved here. -/
import Derived.Test.YtamnmjckhicapaaPtFY
namespace Go.Proofs.Ytamnmjckhicapaa
open Go.RowKit Go.BigFrame Go.WideShapes Go.ChangeShapes Go.Deep
set_option linter.unusedVariables false
set_option linter.unusedSimpArgs false
set_option maxRecDepth 100000
set_option maxRecDepth 100000 in
set_option maxHeartbeats 16000000 in
theorem fof_any (t0 t1 t2 t3 hold room age:Int) (nb no n ncap:Nat) (sv uv:Value) (N:List Nd) (S:List (List Pl)) (U:List Bool) (w:World) (hN:NodesAt w (.slice (some ⟨nb,no,none⟩) n ncap) N) (hn:N.length=n) (hS:SegsAt w sv S) (hU:BoolsAt w uv U) (hok:NetOk N S) (hs1:1≤S.length) (hul:U.length≤S.length) :
    Calls Try.prog 14 #[.agg #[.int .i64 t0,.int .i64 t1,.int .i64 t2,.int .i64 t3,.int .i64 hold,.int .i64 room,.int .i64 age,.slice (some ⟨nb,no,none⟩) n ncap,sv],uv] w fun e w'=>∃ v,e=.returned v∧PlanAt w' v (docF N (raisedL U S))∧Ext w w':=by
 have HS:=Lib.hid hS
 have HU:=Lib.hid hU
 obtain ⟨sb,so,scap,rfl,hsg⟩:=segs_pl hS hs1
 obtain ⟨ua,ucap,rfl,huc⟩:=bools_row hU
 have hn1:1≤n∧n≤5:=by rw [← hn]; exact hok.one
 have hm20:=hok.segs
 obtain ⟨nb',no',ncap',hnve,hids,hnp⟩:=node_open hN (by rw [hn]; exact hn1.1)
 simp only [Value.slice.injEq,Option.some.injEq,Addr.mk.injEq] at hnve
 obtain ⟨⟨rfl,rfl,-⟩,-,rfl⟩:=hnve
 rw [hn] at hids hnp
 obtain ⟨m,hm0⟩:∃ m,S.length=m:=⟨_,rfl⟩
 obtain ⟨ul,hul0⟩:∃ m,U.length=m:=⟨_,rfl⟩
 rw [hm0] at hsg hul hm20 hs1 HS ⊢
 rw [hul0] at huc hul HU ⊢
 have HN:=Lib.hid hN
 have HNN:=Lib.hid hn
 have HM0:=Lib.hid hm0
 have HUL:=Lib.hid hul0
 have HSG:=Lib.hid hsg
 have HUC:=Lib.hid huc
 have HOK:=Lib.hid hok
 have HID:=Lib.hid hids
 have HNP:=Lib.hid hnp
 have HPC:=Lib.hid (ptA_cost hok U)
 obtain ⟨SR,hSR⟩:∃ R,raisedL U S=R:=⟨_,rfl⟩
 have HSR:=Lib.hid hSR
 rw [hSR] at HPC ⊢
 have HSRL:=Lib.hid (show SR.length=m from by rw [← hSR,raisedL_len]; exact hm0)
 have HROK:=Lib.hid (rP_ok HPC.out)
 rw [hn] at HROK
 obtain ⟨i5,hi5,hz5,hs5,hb5⟩:=info_parts info_vc
 have I5:=Lib.hid (And.intro hi5 (And.intro hz5 (And.intro hs5 hb5)))
 obtain ⟨i2,hi2,hz2,hs2,hb2⟩:=info_parts info_fp
 have I2:=Lib.hid (And.intro hi2 (And.intro hz2 (And.intro hs2 hb2)))
 have HMK:=Lib.hid (made_places n)
 clear hN hn hS hU hok hsg huc hids hnp hm0 hul0 hSR hi5 hz5 hs5 hb5 hi2 hz2 hs2 hb2
 go_enter Try.func14,Try.ntmps14
 go_wp2_with (first
  | fail
  | ((with_reducible refine at_box 32 ?_); refine bx_row rfl 32 _ rfl #[.int .i64 t0,.int .i64 t1,.int .i64 t2,.int .i64 t3,.int .i64 hold,.int .i64 room,.int .i64 age,.slice (some ⟨nb,no,none⟩) n ncap,.slice (some ⟨sb,so,none⟩) m scap] rfl ?_
     intro X w1 hX hsz hx1
     have HX1:=Lib.hid (show BoxAt w1 X #[.int .i64 t0,.int .i64 t1,.int .i64 t2,.int .i64 t3,.int .i64 hold,.int .i64 room,.int .i64 age,.slice (some ⟨nb,no,none⟩) n ncap,.slice (some ⟨sb,so,none⟩) m scap] 32 from hX)
     have HE1:=Lib.hid hx1
     clear hX hsz hx1)
  | ((with_reducible refine at_alloc 51 ?_); refine al_zero rfl 51 rfl PNZ zero_dp ?_
     intro RB w2 hq hsz hx
     have HRB:=Lib.hid (show BoxAt w2 RB PNZ 51 from hq)
     have HX:=Lib.hid (HX1.out.ext hx)
     have HE:=Lib.hid (HE1.out.trans hx)
     have HRBW:=Lib.hid (show w.heap.size≤RB from by have:=HE1.out.size; omega)
     have x7:w2.cell? ⟨X,7,none⟩=some (.slice (some ⟨nb,no,none⟩) n ncap):=HX.out.cell 7 rfl
     clear hq hsz hx HX1 HE1))
 clear x7
 obtain ⟨B,hB⟩:∃ B,w2.heap.size=B:=⟨_,rfl⟩
 have HB:=Lib.hid hB
 clear hB
 go_loopw [6,5] (fun s v wr=>∃ (k:Nat) (wo:World),wo=wr∧s=.int .i64 k∧k≤n∧wo.ownsRow B 90 5 v k (flatG vcL ((ownL N n).take k))∧Ext w2 wo) (fun s _ _=>n - (intOf s).toNat)
 case atStart=>exact ⟨0,_,rfl,rfl,by omega,⟨rfl,.inl ⟨rfl,rfl⟩⟩,Ext.refl _⟩
 case round =>
  obtain ⟨k,wo,rfl,rfl,hk,ho,hx⟩:=hrel
  rename World=>wl
  have HO:=Lib.hid ho
  have HXL:=Lib.hid hx
  have HBL:=Lib.hid (show B≤wl.heap.size from by rw [← HB.out]; exact hx.size)
  obtain ⟨a3,c3,rfl⟩:=own_form2 HO.out
  have x7:wl.cell? ⟨X,7,none⟩=some (.slice (some ⟨nb,no,none⟩) n ncap):=(HX.out.ext hx).cell 7 rfl
  clear ho hx
  by_cases hlt:k < n
  ·have dlt:decide ((k:Int) < (n:Int))=true:=by simp; omega
   have hup:IntKind.i64.wrap ((k:Int)+1)=((k+1:Nat):Int):=by rw [IntKind.wrap_i64]; omega
   obtain ⟨id,hid⟩:∃ x,idA N k=x:=⟨_,rfl⟩
   have HIDK:=Lib.hid (show ∀ W',Ext w W'→W'.cell? ⟨nb,no+k*3,none⟩=some (.int .u64 id) from fun W' hw=>by rw [← hid]; exact HID.out W' hw k hlt)
   have HTK:=Lib.hid (show flatG vcL ((ownL N n).take (k+1))=flatG vcL ((ownL N n).take k) ++ [.int .u64 id,.int .u32 0,.int .u64 id,.int .u16 0,.int .u16 0] from by
    rw [take_snoc (ownL N n) default (by simp [ownL]; omega),ownL_at N hlt,flatG_snoc,← hid]
    rfl)
   clear hid
   go_wp2_with fail
   have HEXT:=Lib.hid (show ∀ W',Mut (fun g=>Value.ownBlock (.slice a3 k c3)=some g) wl W'→Ext w2 W' from fun W' h=>HXL.out.mutE h (fun g h1 h2=>by have h3:=(own_lt2 HO.out h2).1; have h4:=HB.out; omega))
   refine beginL (S:=fun W'=>Mut (fun g=>Value.ownBlock (.slice a3 k c3)=some g) wl W') (by kernel_rfl) ?_
   intro wd hqx
   have hq0:Mut (fun g=>Value.ownBlock (.slice a3 k c3)=some g) wl wd:=hqx.mut _
   refine tLp 0 ((.slice a3 k c3)) rfl hq0 ?_
   simp only [ps]
   refine tLp 1 ((.pointer (some ⟨X,7,none⟩))) rfl hq0 ?_
   simp only [ps]
   refine tL 2 (_) rfl (yieldsIf_cell rfl 29 _ rfl ⟨X,7,none⟩ rfl (.slice (some ⟨nb,no,none⟩) n ncap) _ (fun W' hW'=>(HX.out.ext (HEXT.out W' hW')).cell 7 rfl) Try.underlying29 rfl) hq0 ?_
   simp only [ps]
   refine tLp 3 ((.int .i64 (k:Int))) rfl hq0 ?_
   simp only [ps]
   refine tL 4 ((.pointer (some ⟨nb,no+k*3,none⟩))) rfl (Or.inl ⟨rfl,fun W' _=>by go_simp <;> (intro h; omega)⟩) hq0 ?_
   simp only [ps]
   refine tLp 5 ((.pointer (some ⟨nb,no+k*3,none⟩))) rfl hq0 ?_
   simp only [ps]
   refine tL 6 (_) rfl (yieldsIf_cell rfl 53 _ rfl ⟨nb,no+k*3,none⟩ rfl (.int .u64 id) _ (fun W' hW'=>HIDK.out W' (HE.out.trans (HEXT.out W' hW'))) Try.underlying53 rfl) hq0 ?_
   simp only [ps]
   refine tLp 7 ((.pointer (some ⟨X,7,none⟩))) rfl hq0 ?_
   simp only [ps]
   refine tL 8 (_) rfl (yieldsIf_cell rfl 29 _ rfl ⟨X,7,none⟩ rfl (.slice (some ⟨nb,no,none⟩) n ncap) _ (fun W' hW'=>(HX.out.ext (HEXT.out W' hW')).cell 7 rfl) Try.underlying29 rfl) hq0 ?_
   simp only [ps]
   refine tLp 9 ((.int .i64 (k:Int))) rfl hq0 ?_
   simp only [ps]
   refine tL 10 ((.pointer (some ⟨nb,no+k*3,none⟩))) rfl (Or.inl ⟨rfl,fun W' _=>by go_simp <;> (intro h; omega)⟩) hq0 ?_
   simp only [ps]
   refine tLp 11 ((.pointer (some ⟨nb,no+k*3,none⟩))) rfl hq0 ?_
   simp only [ps]
   refine tL 12 (_) rfl (yieldsIf_cell rfl 53 _ rfl ⟨nb,no+k*3,none⟩ rfl (.int .u64 id) _ (fun W' hW'=>HIDK.out W' (HE.out.trans (HEXT.out W' hW'))) Try.underlying53 rfl) hq0 ?_
   simp only [ps]
   refine tL 13 ((.agg #[.int .u64 id,.int .u32 0,.int .u64 id,.int .u16 0,.int .u16 0])) rfl (yieldsIf_build rfl 90 _ rfl [(0,.int .u64 id),(2,.int .u64 id)] rfl #[.int .u64 id,.int .u32 0,.int .u64 id,.int .u16 0,.int .u16 0] (bl_own _)) hq0 ?_
   simp only [ps]
   refine runL (i:=14) rfl rfl (by kernel_rfl) (fun K hK=>?_)
   refine wp_buildSlice 88 90 1 _ rfl #[.int .u64 id,.int .u32 0,.int .u64 id,.int .u16 0,.int .u16 0] i5 (.agg VZ5) Try.underlying88 I5.out.1 I5.out.2.1 (by rw [I5.out.2.2.1]; decide) (by rw [I5.out.2.2.1]; decide) (by rw [I5.out.2.2.1,Array.toList_map]; exact b1_vc _ _ _ _ _) ?_
   have hy:Ext wd (wd.alloc (.cells #[.int .u64 id,.int .u32 0,.int .u64 id,.int .u16 0,.int .u16 0] 90)):=(Ext.refl _).alloc _
   have hnw:=heap_alloc_new wd (.cells #[.int .u64 id,.int .u32 0,.int .u64 id,.int .u16 0,.int .u16 0] 90)
   obtain ⟨wn,hwa⟩:∃ W,wd.alloc (.cells #[.int .u64 id,.int .u32 0,.int .u64 id,.int .u16 0,.int .u16 0] 90)=W:=⟨_,rfl⟩
   obtain ⟨bn,hnb⟩:∃ m,wd.heap.size=m:=⟨_,rfl⟩
   rw [hwa] at hnw hy ⊢
   rw [hnb] at hnw ⊢
   clear hwa hnb
   have hxn:Ext wl wn:=hqx.trans hy
   have hO2:=ownR_ext HO.out hxn
   have hbw:B≤wn.heap.size:=Nat.le_trans HBL.out hxn.size
   refine hK.out _ _ (hxn.mut _) (fun _=>?_)
   try simp only [ps]
   clear hK K
   refine runL (i:=15) rfl rfl (by kernel_rfl) (fun K hK=>?_)
   refine oper_append_own_at _ _ 88 rfl B 90 i5 (.agg VZ5) 5 32 Try.underlying88 I5.out.1 I5.out.2.1 I5.out.2.2.1 I5.out.2.2.2 rfl (by decide) (.slice a3 k c3) k (flatG vcL ((ownL N n).take k)) rfl hO2 ⟨bn,0,none⟩ 1 1 [.int .u64 id,.int .u32 0,.int .u64 id,.int .u16 0,.int .u16 0] rfl rfl ?hnews (fun u hu=>by
       have hu2:=hu
       simp only [List.mem_cons,List.not_mem_nil,or_false] at hu2
       rcases hu2 with rfl | rfl | rfl | rfl | rfl <;> rfl) (by unfold maxLen; omega) (by omega) hbw ?hfin
   case hnews=>exact fun j u hu=>World.news_of_block hnw j u (by simpa using hu)
   case hfin =>
   intro v6 wa ho6 hg6 hloc
   have hfr:Mut (fun g=>Value.ownBlock (.slice a3 k c3)=some g) wl wa:=(hxn.mut _).trans (grown_mut hg6)
   obtain ⟨a6,c6,rfl⟩:=own_form2 ho6
   have HON:=Lib.hid (show wa.ownsRow B 90 5 (.slice a6 (k+1) c6) (k+1) (flatG vcL ((ownL N n).take (k+1))) from by
    rw [HTK.out]
    exact ho6)
   have HXN:=Lib.hid (HEXT.out wa hfr)
   refine hK.out _ _ hfr (fun _=>?_)
   try simp only [ps]
   clear hK K
   refine tLp 16 ((.slice a6 (k+1) c6)) rfl hfr ?_
   simp only [ps]
   clear hfr hloc ho6 hg6 hbw hO2 hxn hy hnw hq0 hqx
   refine wpAnyH_done (by kernel_rfl) ?_ _
   go_wp2_with fail
   go_roundw
   case rel=>exact ⟨k+1,_,rfl,by go_num,hlt,HON.out,HXN.out⟩
   case measure=>simp [intOf] <;> omega
  ·have dlt:decide ((k:Int) < (n:Int))=false:=by simp; omega
   obtain rfl:n=k:=by omega
   have ho:=HO.out
   rw [List.take_of_length_le (by simp [ownL])] at ho
   obtain ⟨g0,cap0,hge,hg0,hga⟩:=GAt.of_own (by omega) (by simp [ownL]) ho
   simp only [Value.slice.injEq,true_and] at hge
   obtain ⟨rfl,rfl⟩:=hge
   have HV0:=Lib.hid hga
   have HG0:=Lib.hid hg0
   clear ho hga hg0 HO
   go_wp2_with (first
    | fail
    | (at_make; refine wpList_make_full _ rfl _ _ 49 rfl wl.heap.size 59 i2 (.agg PZ2) 2 Try.underlying49 I2.out.1 I2.out.2.1 I2.out.2.2.1 .i64 .i64 _ _ n rfl rfl rfl rfl (by rw [I2.out.2.2.2]; omega) (by unfold maxLen; omega) (Nat.le_refl _) ?_
       intro w3 hown hgr
       have hE3:Ext wl w3:=Below.grown (Ext.refl wl) hgr (Nat.le_refl _) (fun g hg=>by cases hg)
       rw [HMK.out] at hown
       obtain ⟨GV,hGV⟩:∃ G,wl.heap.size=G:=⟨_,rfl⟩
       rw [hGV] at hown ⊢
       have HGV:=Lib.hid hGV
       have HVI0:=Lib.hid (show GAt 59 2 plL w3 GV n n (List.replicate n (0,0)) from by
        obtain ⟨g',cap',e0,-,hA0⟩:=GAt.of_own (by omega) (by simp) hown
        cases e0
        exact hA0)
       have HV3:=Lib.hid (HV0.out.ext hE3)
       have HX3:=Lib.hid (HXL.out.trans hE3)
       clear hown hgr hE3 hGV))
   have HGB:=Lib.hid (show B≤GV from by have:=HBL.out; have:=HGV.out; omega)
   have HGN:=Lib.hid (show g0 ≠ GV from by have:=HV0.out.lt; have:=HGV.out; omega)
   clear HV0 HBL HXL x7 dlt
   go_loopw [8,5] (fun s v wr=>∃ (r g cap:Nat) (wo:World),wo=wr∧s=.int .i64 r∧v=.slice (some ⟨g,0,none⟩) n cap∧r≤n+1∧GAt 90 5 vcL wo g n cap (rP N SR r).1∧GAt 59 2 plL wo GV n n (rP N SR r).2∧g ≠ GV∧B≤g∧Ext w2 wo) (fun s _ _=>n+1 - (intOf s).toNat)
   case atStart=>exact ⟨0,_,_,_,rfl,rfl,rfl,by omega,by show GAt _ _ _ _ _ _ _ (ownL N N.length); rw [HNN.out]; exact HV3.out,by show GAt _ _ _ _ _ _ _ (List.replicate N.length (0,0)); rw [HNN.out]; exact HVI0.out,HGN.out,HG0.out,HX3.out⟩
   case round =>
    clear HV3 HVI0 HGN HG0 HX3
    obtain ⟨r,g,cap,wo,rfl,rfl,rfl,hr,hv,hvi,hgn,hgb,hx⟩:=hrel
    rename World=>wr
    have HVR:=Lib.hid hv
    have HVIR:=Lib.hid hvi
    have HGN:=Lib.hid hgn
    have HGBR:=Lib.hid hgb
    have HXR:=Lib.hid hx
    have x7:wr.cell? ⟨X,7,none⟩=some (.slice (some ⟨nb,no,none⟩) n ncap):=(HX.out.ext hx).cell 7 rfl
    clear hv hvi hgn hgb hx
    by_cases hlr:r < n+1
    ·have dlr:decide ((r:Int)≤(n:Int))=true:=by simp; omega
     have hupr:IntKind.i64.wrap ((r:Int)+1)=((r+1:Nat):Int):=by rw [IntKind.wrap_i64]; omega
     have HRN:=Lib.hid (show rP N SR (r+1)=rndP N SR (rP N SR r).1 from rfl)
     have HCOST:=Lib.hid (HROK.out r).cost
     obtain ⟨D,hD⟩:∃ D,(rP N SR r).1=D:=⟨_,rfl⟩
     obtain ⟨DV,hDV⟩:∃ D,(rP N SR r).2=D:=⟨_,rfl⟩
     rw [hD] at HVR HRN HCOST
     rw [hDV] at HVIR
     clear hD hDV
     have hone:=Lib.hid (flatV_one D)
     have hcapm:cap≤9223372036854775807:=by have:=HVR.out.cap2; unfold maxLen at this; omega
     have hncap:n≤cap:=HVR.out.cap1
     go_wp2_with (first
      | fail
      | (at_builtin; refine wpList_append_own_at _ rfl _ _ 88 rfl wr.heap.size 90 i5 (.agg VZ5) 5 32 Try.underlying88 I5.out.1 I5.out.2.1 I5.out.2.2.1 I5.out.2.2.2 rfl (by decide) (.slice (some ⟨wr.heap.size,0,none⟩) 0 0) 0 [] rfl ⟨rfl,.inr ⟨wr.heap.size,0,#[],rfl,Nat.le_refl _,heap_alloc_new _ _,Nat.le_refl _,by decide,rfl,rfl⟩⟩ ⟨g,0,none⟩ n cap (flatG vcL D) rfl (by rw [flatG_len vcL_len,HVR.out.len]) (HVR.out.ext ((Ext.refl wr).alloc _)).news hone.out (by unfold maxLen; omega) (by omega) (by simp) ?_
         intro v' w4 hown4 hgr4 _ _))
     have hE4:Ext wr w4:=Below.grown ((Ext.refl wr).alloc _) hgr4 (by simp) (fun g hg=>by
      have:wr.heap.size=g:=by simpa [Value.ownBlock] using hg
      omega)
     rw [Nat.zero_add,List.nil_append] at hown4
     obtain ⟨g2,cap2,rfl,hb2,hA2⟩:=GAt.of_own (by omega) HVR.out.len hown4
     have HB2:=Lib.hid hb2
     have HA2:=Lib.hid hA2
     have HE4:=Lib.hid hE4
     have HV4:=Lib.hid (HVR.out.ext hE4)
     have HVI4:=Lib.hid (HVIR.out.ext hE4)
     have HX4:=Lib.hid (HXR.out.trans hE4)
     have HNE:=Lib.hid (show g ≠ g2∧GV ≠ g2∧B≤g2 from ⟨by have:=HVR.out.lt; omega,by have:=HVIR.out.lt; omega,by have:=HXR.out.size; have:=HB.out; omega⟩)
     have HFX:=Lib.hid (show ∀ W',Mut (fun j=>j=g2∨j=GV) w4 W'→Ext w2 W' from fun W' hm=>HX4.out.mutE hm (fun j h1 h2=>by
      have h3:=HB.out
      have h4:=HNE.out.2.2
      have h5:=HGB.out
      rcases h2 with h2 | h2 <;> omega))
     have hcap2m:cap2≤9223372036854775807:=by have:=hA2.cap2; unfold maxLen at this; omega
     have hncap2:n≤cap2:=hA2.cap1
     have v9:=hA2.len
     clear hown4 hgr4 hb2 hA2 hE4 hone
     go_loopw [10] (fun s wq=>∃ (i:Nat) (wo:World),wo=wq∧s=.int .i64 i∧i≤n∧GAt 90 5 vcL wo g2 n cap2 ((ownL N n).take i ++ D.drop i)∧GAt 59 2 plL wo GV n n ((List.replicate n ((-1,-1):Pl)).take i ++ DV.drop i)∧Mut (fun j=>j=g2∨j=GV) w4 wo) (fun s _=>n - (intOf s).toNat)
     case atStart=>exact ⟨0,_,rfl,rfl,by omega,HA2.out,HVI4.out,Mut.refl _ _⟩
     case round =>
      clear HA2 HVI4
      obtain ⟨i,wo,rfl,rfl,hi,hv,hvi,hmu⟩:=hrel
      rename World=>wq
      have HNX:=Lib.hid hv
      have HVI:=Lib.hid hvi
      have HMU:=Lib.hid hmu
      have HXQ:=Lib.hid (HFX.out wq hmu)
      have x7:wq.cell? ⟨X,7,none⟩=some (.slice (some ⟨nb,no,none⟩) n ncap):=(HX.out.ext HXQ.out).cell 7 rfl
      clear hv hvi hmu
      by_cases hli:i < n
      ·have dli:decide ((i:Int) < (n:Int))=true:=by simp; omega
       have hupi:IntKind.i64.wrap ((i:Int)+1)=((i+1:Nat):Int):=by rw [IntKind.wrap_i64]; omega
       obtain ⟨id,hid⟩:∃ x,idA N i=x:=⟨_,rfl⟩
       have HIDK:=Lib.hid (show ∀ W',Ext w2 W'→W'.cell? ⟨nb,no+i*3,none⟩=some (.int .u64 id) from fun W' hw=>by rw [← hid]; exact HID.out W' (HE.out.trans hw) i hli)
       have HPW:=Lib.hid (take_putD (ownL N n) D default (i:=i) (by simp [ownL]; omega) (by rw [v9]; simp [ownL]))
       have HPI:=Lib.hid (take_putD (List.replicate n ((-1,-1):Pl)) DV (0,0) (i:=i) (by simp; omega) (by have:=HVIR.out.len; simp; omega))
       have HOW:=Lib.hid (show (ownL N n).getD i default=⟨id,0,id,0,0⟩ from by rw [ownL_at N hli,← hid]; rfl)
       have HRE:=Lib.hid (show (List.replicate n ((-1,-1):Pl)).getD i (0,0)=(-1,-1) from by rw [List.getD_eq_getElem?_getD,List.getElem?_replicate,if_pos hli]; rfl)
       obtain ⟨cur,hcur,hcz,-⟩:=HNX.out.row
       have HC:=Lib.hid hcur
       have hcs:i*5+5≤cur.size:=by omega
       clear hid hcur
       go_wp2_with fail
       refine beginZ (S:=fun W'=>Ext wq W'∧W'.heap[g2]?=some (.cells cur 90 (0,0))) 16 (by kernel_rfl) ?_
       intro wd hqx
       have hq0:Ext wq wd∧wd.heap[g2]?=some (.cells cur 90 (0,0)):=⟨hqx,(hqx.block g2 (heap_lt HC.out)).trans HC.out⟩
       refine takeZ (i:=0) (z:=16) (v:=(.slice (some ⟨g2,0,none⟩) n cap2)) rfl rfl (by kernel_rfl) (by kernel_rfl) (by kernel_rfl) (by kernel_rfl) (by kernel_rfl) (by kernel_rfl) (fun _ _ _ h=>h) (Or.inl ⟨rfl,fun _ _=>rfl⟩) hq0 ?_
       simp only [ps]
       refine takeZ (i:=1) (z:=16) (v:=(.int .i64 (i:Int))) rfl rfl (by kernel_rfl) (by kernel_rfl) (by kernel_rfl) (by kernel_rfl) (by kernel_rfl) (by kernel_rfl) (fun _ _ _ h=>h) (Or.inl ⟨rfl,fun _ _=>rfl⟩) hq0 ?_
       simp only [ps]
       refine takeZ (i:=2) (z:=16) (v:=(.pointer (some ⟨X,7,none⟩))) rfl rfl (by kernel_rfl) (by kernel_rfl) (by kernel_rfl) (by kernel_rfl) (by kernel_rfl) (by kernel_rfl) (fun _ _ _ h=>h) (Or.inl ⟨rfl,fun _ _=>rfl⟩) hq0 ?_
       simp only [ps]
       refine takeZ (i:=3) (z:=16) (v:=_) rfl rfl (by kernel_rfl) (by kernel_rfl) (by kernel_rfl) (by kernel_rfl) (by kernel_rfl) (by kernel_rfl) (fun _ _ _ h=>h) (yieldsIf_cell rfl 29 _ rfl ⟨X,7,none⟩ rfl (.slice (some ⟨nb,no,none⟩) n ncap) _ (fun W' hW'=>(HX.out.ext (HXQ.out.trans hW'.1)).cell 7 rfl) Try.underlying29 rfl) hq0 ?_
       simp only [ps]
       refine takeZ (i:=4) (z:=16) (v:=(.int .i64 (i:Int))) rfl rfl (by kernel_rfl) (by kernel_rfl) (by kernel_rfl) (by kernel_rfl) (by kernel_rfl) (by kernel_rfl) (fun _ _ _ h=>h) (Or.inl ⟨rfl,fun _ _=>rfl⟩) hq0 ?_
       simp only [ps]
       refine takeZ (i:=5) (z:=16) (v:=(.pointer (some ⟨nb,no+i*3,none⟩))) rfl rfl (by kernel_rfl) (by kernel_rfl) (by kernel_rfl) (by kernel_rfl) (by kernel_rfl) (by kernel_rfl) (fun _ _ _ h=>h) (Or.inl ⟨rfl,fun W' _=>by go_simp <;> (intro h; omega)⟩) hq0 ?_
       simp only [ps]
       refine takeZ (i:=6) (z:=16) (v:=(.pointer (some ⟨nb,no+i*3,none⟩))) rfl rfl (by kernel_rfl) (by kernel_rfl) (by kernel_rfl) (by kernel_rfl) (by kernel_rfl) (by kernel_rfl) (fun _ _ _ h=>h) (Or.inl ⟨rfl,fun _ _=>rfl⟩) hq0 ?_
       simp only [ps]
       refine takeZ (i:=7) (z:=16) (v:=_) rfl rfl (by kernel_rfl) (by kernel_rfl) (by kernel_rfl) (by kernel_rfl) (by kernel_rfl) (by kernel_rfl) (fun _ _ _ h=>h) (yieldsIf_cell rfl 53 _ rfl ⟨nb,no+i*3,none⟩ rfl (.int .u64 id) _ (fun W' hW'=>HIDK.out W' (HXQ.out.trans hW'.1)) Try.underlying53 rfl) hq0 ?_
       simp only [ps]
       refine takeZ (i:=8) (z:=16) (v:=(.pointer (some ⟨X,7,none⟩))) rfl rfl (by kernel_rfl) (by kernel_rfl) (by kernel_rfl) (by kernel_rfl) (by kernel_rfl) (by kernel_rfl) (fun _ _ _ h=>h) (Or.inl ⟨rfl,fun _ _=>rfl⟩) hq0 ?_
       simp only [ps]
       refine takeZ (i:=9) (z:=16) (v:=_) rfl rfl (by kernel_rfl) (by kernel_rfl) (by kernel_rfl) (by kernel_rfl) (by kernel_rfl) (by kernel_rfl) (fun _ _ _ h=>h) (yieldsIf_cell rfl 29 _ rfl ⟨X,7,none⟩ rfl (.slice (some ⟨nb,no,none⟩) n ncap) _ (fun W' hW'=>(HX.out.ext (HXQ.out.trans hW'.1)).cell 7 rfl) Try.underlying29 rfl) hq0 ?_
       simp only [ps]
       refine takeZ (i:=10) (z:=16) (v:=(.int .i64 (i:Int))) rfl rfl (by kernel_rfl) (by kernel_rfl) (by kernel_rfl) (by kernel_rfl) (by kernel_rfl) (by kernel_rfl) (fun _ _ _ h=>h) (Or.inl ⟨rfl,fun _ _=>rfl⟩) hq0 ?_
       simp only [ps]
       refine takeZ (i:=11) (z:=16) (v:=(.pointer (some ⟨nb,no+i*3,none⟩))) rfl rfl (by kernel_rfl) (by kernel_rfl) (by kernel_rfl) (by kernel_rfl) (by kernel_rfl) (by kernel_rfl) (fun _ _ _ h=>h) (Or.inl ⟨rfl,fun W' _=>by go_simp <;> (intro h; omega)⟩) hq0 ?_
       simp only [ps]
       refine takeZ (i:=12) (z:=16) (v:=(.pointer (some ⟨nb,no+i*3,none⟩))) rfl rfl (by kernel_rfl) (by kernel_rfl) (by kernel_rfl) (by kernel_rfl) (by kernel_rfl) (by kernel_rfl) (fun _ _ _ h=>h) (Or.inl ⟨rfl,fun _ _=>rfl⟩) hq0 ?_
       simp only [ps]
       refine takeZ (i:=13) (z:=16) (v:=_) rfl rfl (by kernel_rfl) (by kernel_rfl) (by kernel_rfl) (by kernel_rfl) (by kernel_rfl) (by kernel_rfl) (fun _ _ _ h=>h) (yieldsIf_cell rfl 53 _ rfl ⟨nb,no+i*3,none⟩ rfl (.int .u64 id) _ (fun W' hW'=>HIDK.out W' (HXQ.out.trans hW'.1)) Try.underlying53 rfl) hq0 ?_
       simp only [ps]
       refine takeZ (i:=14) (z:=16) (v:=(.agg #[.int .u64 id,.int .u32 0,.int .u64 id,.int .u16 0,.int .u16 0])) rfl rfl (by kernel_rfl) (by kernel_rfl) (by kernel_rfl) (by kernel_rfl) (by kernel_rfl) (by kernel_rfl) (fun _ _ _ h=>h) (yieldsIf_build rfl 90 _ rfl [(0,.int .u64 id),(2,.int .u64 id)] rfl #[.int .u64 id,.int .u32 0,.int .u64 id,.int .u16 0,.int .u16 0] (bl_own _)) hq0 ?_
       simp only [ps]
       refine takeZ (i:=15) (z:=16) (v:=(.pointer (some ⟨g2,i*5,none⟩))) rfl rfl (by kernel_rfl) (by kernel_rfl) (by kernel_rfl) (by kernel_rfl) (by kernel_rfl) (by kernel_rfl) (fun _ _ _ h=>h) (Or.inl ⟨rfl,fun W' _=>by go_simp <;> (intro h; omega)⟩) hq0 ?_
       simp only [ps]
       refine runZl (z:=16) rfl rfl (by kernel_rfl) (fun K hK=>?_)
       refine wp_st_at rfl 90 _ _ rfl g2 (i*5) _ #[.int .u64 id,.int .u32 0,.int .u64 id,.int .u16 0,.int .u16 0] cur _ 90 rfl rfl rfl hq0.2 (by show i*5+5≤cur.size; omega) (by kernel_rfl) rfl rfl (fun ws hrow hm=>?_)
       have HNX5:=Lib.hid ((HNX.out.ext hqx).put vcL_len hli ⟨id,0,id,0,0⟩ hq0.2 hrow (by simp [vcL]))
       have HVI5:=Lib.hid ((HVI.out.ext hqx).mut hm (fun h=>by have h2:GV=g2:=h; exact HNE.out.2.1 h2))
       have HMU5:=Lib.hid ((HMU.out.trans (hqx.mut _)).trans (hm.mono (fun j _ h=>.inl h)))
       refine hK.out _ _ ?_
       try simp only [ps]
       clear hK K hrow hm hq0 hqx
       refine wpAnyH_done (by kernel_rfl) ?_ _
       obtain ⟨cur2,hcur2,hcz2,-⟩:=HVI5.out.row
       have HC2:=Lib.hid hcur2
       have hcs2:i*2+2≤cur2.size:=by omega
       clear hcur2
       go_wp2_with (first
        | fail
        | ((with_reducible refine at_store 59 ?_); refine st_at rfl rfl 59 _ _ rfl GV (i*2) _ #[.int .i64 (-1),.int .i64 (-1)] cur2 _ 59 rfl rfl rfl HC2.out (by show i*2+2≤cur2.size; omega) (by kernel_rfl) rfl rfl ?_
           intro w9 hq9 hm9
           have HVI9:=Lib.hid (HVI5.out.put plL_len hli (-1,-1) HC2.out hq9 (by simp [plL]))
           have HNX9:=Lib.hid (HNX5.out.mut hm9 (fun h=>by have h2:g2=GV:=h; exact HNE.out.2.1 h2.symm))
           have HMU9:=Lib.hid (HMU5.out.trans (hm9.mono (fun j _ h=>.inr h)))
           clear hq9 hm9))
       go_roundw
       case rel=>exact ⟨i+1,_,rfl,by go_num,hli,by rw [← HPW.out,HOW.out]; exact HNX9.out,by rw [← HPI.out,HRE.out]; exact HVI9.out,HMU9.out⟩
       case measure=>simp [intOf] <;> omega
      ·have dli:decide ((i:Int) < (n:Int))=false:=by simp; omega
       obtain rfl:n=i:=by omega
       have HNXA:=Lib.hid (show GAt 90 5 vcL wq g2 n cap2 (foldS N SR D 0).1 from by
        have h:=HNX.out
        rw [List.take_of_length_le (by simp [ownL]),List.drop_eq_nil_of_le (by rw [v9]; exact Nat.le_refl _),List.append_nil] at h
        show GAt _ _ _ _ _ _ _ (ownL N N.length)
        rw [HNN.out]
        exact h)
       have HVIA:=Lib.hid (show GAt 59 2 plL wq GV n n (foldS N SR D 0).2 from by
        have h:=HVI.out
        rw [List.take_of_length_le (by simp),List.drop_eq_nil_of_le (by have:=HVIR.out.len; omega),List.append_nil] at h
        show GAt _ _ _ _ _ _ _ (List.replicate N.length (-1,-1))
        rw [HNN.out]
        exact h)
       clear x7 HNX HVI dli
       go_wp2_with fail
       go_loopw [11] (fun s wr=>∃ (j:Nat) (wo:World),wo=wr∧s=.int .i64 j∧j≤m∧GAt 90 5 vcL wo g2 n cap2 (foldS N SR D j).1∧GAt 59 2 plL wo GV n n (foldS N SR D j).2∧Mut (fun j=>j=g2∨j=GV) w4 wo) (fun s _=>m - (intOf s).toNat)
       case atStart=>exact ⟨0,_,rfl,rfl,by omega,HNXA.out,HVIA.out,HMU.out⟩
       case round =>
        as_aux_lemma =>
         clear HNXA HVIA HMU HXQ
         obtain ⟨s,wo,rfl,rfl,hs,hv,hvi,hmu⟩:=hrel
         rename World=>ws
         have HNX:=Lib.hid hv
         have HVI:=Lib.hid hvi
         have HMU:=Lib.hid hmu
         have HXS:=Lib.hid (HFX.out ws hmu)
         have x8:ws.cell? ⟨X,8,none⟩=some (.slice (some ⟨sb,so,none⟩) m scap):=(HX.out.ext HXS.out).cell 8 rfl
         have hups:IntKind.i64.wrap ((s:Int)+1)=((s+1:Nat):Int):=by rw [IntKind.wrap_i64]; omega
         clear hv hvi hmu
         by_cases hlt:s < m∧s < ul
         ·have hsm:s < m:=hlt.1
          have hsu:s < ul:=hlt.2
          have dlt:decide ((s:Int) < (m:Int))=true:=by simp; omega
          have dlu:decide ((s:Int) < (ul:Int))=true:=by simp; omega
          obtain ⟨ub,uo,rfl,hub⟩:=HUC.out (by omega)
          have hu0:=hub ws (HE.out.trans HXS.out) s hsu
          have hra:=raisedL_at U S (i:=s) (by rw [HM0.out]; exact hsm)
          rw [HSR.out] at hra
          unfold raisedF at hra
          have hst1:=foldS_step N SR D (s:=s) (by rw [HSRL.out]; exact hsm)
          have hstok:=foldS_ok HCOST.out HPC.out s
          rw [HNN.out] at hstok
          obtain ⟨st,hst⟩:∃ st,foldS N SR D s=st:=⟨_,rfl⟩
          rw [hst] at HNX HVI hst1 hstok
          have HSTOK:=Lib.hid hstok
          clear hub hlt hst hstok
          cases hb:U.getD s false with
          | false =>
           rw [hb] at hu0 hra
           have hra2:SR.getD s []=[]:=hra
           rw [hra2] at hst1
           have HST:=Lib.hid (show foldS N SR D (s+1)=st from hst1)
           clear hra hra2 hst1 hb
           go_wp2_with fail
           go_roundw
           case rel=>exact ⟨s+1,_,rfl,by go_num,hsm,by rw [HST.out]; exact HNX.out,by rw [HST.out]; exact HVI.out,HMU.out⟩
           case measure=>simp [intOf] <;> omega
          | true =>
           rw [hb] at hu0 hra
           have hra2:SR.getD s []=S.getD s []:=hra
           have hmemS:S.getD s [] ∈ S:=by
            rw [List.getD_eq_getElem?_getD,List.getElem?_eq_getElem (by rw [HM0.out]; exact hsm)]
            exact List.getElem_mem _
           have hl60:=HOK.out.s60 _ hmemS
           have hlok:=HOK.out.sok _ hmemS
           have hmemR:S.getD s [] ∈ SR:=by
            rw [← hra2,List.getD_eq_getElem?_getD,List.getElem?_eq_getElem (by rw [HSRL.out]; exact hsm)]
            exact List.getElem_mem _
           have hlc:=HPC.out _ hmemR
           rw [hra2] at hst1
           obtain ⟨sa,scp,hc,hpl⟩:=HSG.out s hsm
           obtain ⟨L,hL⟩:∃ L,S.getD s []=L:=⟨_,rfl⟩
           rw [hL] at hc hpl hl60 hlok hlc hst1
           obtain ⟨ll,hll⟩:∃ l,L.length=l:=⟨_,rfl⟩
           rw [hll] at hc hpl hl60
           have HLL:=Lib.hid hll
           have HCS:=Lib.hid hc
           have HPL:=Lib.hid hpl
           have HLOK:=Lib.hid hlok
           have HLC:=Lib.hid hlc
           have HST:=Lib.hid hst1
           have cseg:=hc ws (HE.out.trans HXS.out)
           clear hc hpl hlok hlc hst1 hL hll hra hra2 hmemS hmemR hb
           by_cases hl0:ll=0
           ·subst hl0
            have HL0:=Lib.hid (show L=[] from List.eq_nil_of_length_eq_zero HLL.out)
            have e00:((0:Int) == 0)=true:=by decide
            go_wp2_with fail
            go_roundw
            case rel=>exact ⟨s+1,_,rfl,by go_num,hsm,by rw [HST.out,HL0.out]; exact HNX.out,by rw [HST.out,HL0.out]; exact HVI.out,HMU.out⟩
            case measure=>simp [intOf] <;> omega
           ·have e0:((ll:Int) == 0)=false:=by simp; omega
            have e1:decide ((ll:Int)=0)=false:=by simp; omega
            obtain ⟨a',cp',he',hlr⟩:=places_row HPL.out
            rw [HLL.out] at he' hlr
            obtain ⟨pb,po,ha',hlr2⟩:=hlr (by omega)
            simp only [Value.slice.injEq,true_and] at he'
            obtain ⟨rfl,rfl⟩:=he'
            subst ha'
            have HLR:=Lib.hid hlr2
            have hbm:=minF_mem (cfV N D) L (by rw [HLL.out]; omega)
            have hbok:=HLOK.out _ hbm
            obtain ⟨by_,hby⟩:∃ b,bestF N D L=b:=⟨_,rfl⟩
            have hbok2:PlOk N by_:=by rw [← hby]; exact hbok
            obtain ⟨bi,bk⟩:=by_
            obtain ⟨o1,o2,o3,o4⟩:=hbok2
            dsimp only at o1 o2 o3 o4
            obtain ⟨bi,rfl⟩:∃ b:Nat,bi=b:=⟨_,(Int.toNat_of_nonneg o1).symm⟩
            obtain ⟨bk,rfl⟩:∃ b:Nat,bk=b:=⟨_,(Int.toNat_of_nonneg o3).symm⟩
            rw [Int.toNat_natCast] at o4
            have LB:=Lib.hid (show bi < n∧bk < npA N bi from ⟨by have:=HNN.out; omega,by unfold npA; omega⟩)
            have HBE:=Lib.hid hby
            have HVS:=Lib.hid (HV4.out.mut HMU.out (fun h=>by rcases h with h | h; exact HNE.out.1 h; exact HGN.out h))
            clear hlr hlr2 hbm hbok hby o1 o2 o3 o4
            go_wp2_with fail
            go_cut [12] from 113 to 120 (fun s wx=>∃ Y,s=.pointer (some ⟨Y,0,none⟩)∧BoxAt wx Y #[.int .i64 (bi:Int),.int .i64 (bk:Int)] 59∧ws.heap.size≤Y∧Ext ws wx)
            case rest =>
             obtain ⟨Y,rfl,hrow9,hlo8,hqF⟩:=hcut
             rename World=>ws9
             have HY:=Lib.hid (show BoxAt ws9 Y #[.int .i64 (bi:Int),.int .i64 (bk:Int)] 59 from hrow9)
             have HYW:=Lib.hid hlo8
             have HE9:=Lib.hid hqF
             clear hrow9 hlo8 hqF
             go_wp2_with fail
             go_loopw [13] (fun s wr=>∃ (q:Nat) (wo:World),wo=wr∧s=.int .i64 q∧q≤ll∧GAt 90 5 vcL wo g2 n cap2 (foldP N D st L q).1∧GAt 59 2 plL wo GV n n (foldP N D st L q).2∧Mut (fun j=>j=g2∨j=GV) ws9 wo) (fun s _=>ll - (intOf s).toNat)
             case atStart=>exact ⟨0,_,rfl,rfl,by omega,HNX.out.ext HE9.out,HVI.out.ext HE9.out,Mut.refl _ _⟩
             case round =>
              as_aux_lemma =>
               obtain ⟨q,wo,rfl,rfl,hq,hv,hvi,hmu⟩:=hrel
               rename World=>wk
               have HNXK:=Lib.hid hv
               have HVIK:=Lib.hid hvi
               have HMUK:=Lib.hid hmu
               have HMT:=Lib.hid ((HMU.out.trans (HE9.out.mut _)).trans hmu)
               have HXK:=Lib.hid (HFX.out wk HMT.out)
               have HYK:=Lib.hid (HY.out.mut hmu (fun h=>by
                have h1:=HNX.out.lt
                have h2:=HVI.out.lt
                have h3:=HYW.out
                rcases h with h | h <;> omega))
               have x8:wk.cell? ⟨X,8,none⟩=some (.slice (some ⟨sb,so,none⟩) m scap):=(HX.out.ext HXK.out).cell 8 rfl
               have cseg:=HCS.out wk (HE.out.trans HXK.out)
               have hupq:IntKind.i64.wrap ((q:Int)+1)=((q+1:Nat):Int):=by rw [IntKind.wrap_i64]; omega
               have hpok:=foldP_ok HCOST.out HSTOK.out HLC.out q
               clear hv hvi hmu
               by_cases hql:q < ll
               ·have dql:decide ((q:Int) < (ll:Int))=true:=by simp; omega
                have hfs:=foldP_step N D st L (k:=q) (by rw [HLL.out]; exact hql)
                obtain ⟨sq,hsq⟩:∃ x,foldP N D st L q=x:=⟨_,rfl⟩
                rw [hsq] at HNXK HVIK hfs hpok
                have hrs:=HLR.out wk (HE.out.trans HXK.out) q hql
                have hpl:L.getD q (0,0) ∈ L:=by
                 rw [List.getD_eq_getElem?_getD,List.getElem?_eq_getElem (by rw [HLL.out]; exact hql)]
                 exact List.getElem_mem _
                have okp:=HLOK.out _ hpl
                have hpc:=costA_ok HOK.out.cost okp
                generalize L.getD q (0,0)=p at hrs okp hfs hpc
                obtain ⟨pi,pk⟩:=p
                obtain ⟨o1,o2,o3,o4⟩:=okp
                dsimp only at o1 o2 o3 o4
                obtain ⟨pi,rfl⟩:∃ b:Nat,pi=b:=⟨_,(Int.toNat_of_nonneg o1).symm⟩
                obtain ⟨pk,rfl⟩:∃ b:Nat,pk=b:=⟨_,(Int.toNat_of_nonneg o3).symm⟩
                rw [Int.toNat_natCast] at o4
                have lpi:pi < n:=by have:=HNN.out; omega
                have lpk:pk < npA N pi:=by unfold npA; omega
                have RS:=Lib.hid (show wk.rangeAt pb (po+q*2) [.int .i64 (pi:Int),.int .i64 (pk:Int)] from hrs)
                have HFS:=Lib.hid hfs
                have HPOK:=Lib.hid hpok
                obtain ⟨rst,pa,pcap,hnr,hpr⟩:=node_row HN.out HNN.out lpi
                obtain ⟨pb2,po2,rfl,hpr2⟩:=hpr (by omega)
                obtain ⟨pt,hpt⟩:∃ x,ptA N pi pk=x:=⟨_,rfl⟩
                obtain ⟨np,hnp⟩:∃ x,npA N pi=x:=⟨_,rfl⟩
                have hpr3:=fun W' hw=>hpr2 W' hw pk lpk
                rw [hpt] at hpr3
                rw [hnp] at hnr lpk
                have HNR:=Lib.hid hnr
                have HPR:=Lib.hid (show ∀ W',Ext w W'→W'.rangeAt pb2 (po2+pk*5) [.int .u16 pt.pid,.int .u32 pt.cost,.bool pt.sh,.bool pt.ad,.bool pt.au] from hpr3)
                have HPC5:=Lib.hid (show 0≤pt.cost∧pt.cost < 4294967296 from by
                 have h:costA N ((pi:Int),(pk:Int))=pt.cost:=by
                  rw [← hpt]
                  unfold costA ptA
                  rw [Int.toNat_natCast,Int.toNat_natCast]
                 rw [← h]
                 exact hpc)
                have HPT:=Lib.hid hpt
                clear hrs hpl hpc o1 o2 o3 o4 hfs hpok hnr hpr hpr2 hpr3 hpt hnp
                by_cases hpb:pi=bi
                ·have e2:((pi:Int) == (bi:Int))=true:=by simp; omega
                 have HF2:=Lib.hid (show foldP N D st L (q+1)=sq from by
                  rw [HFS.out]
                  unfold put1
                  rw [if_pos (by rw [HBE.out]; show (pi:Int)=(bi:Int); omega)])
                 subst hpb
                 go_wp2_with (first
                  | fail
                  | ((with_reducible refine at_load 59 ?_); refine wpList_load_mid rfl 59 _ rfl pb (po+q*2) rfl [.int .i64 (pi:Int),.int .i64 (pk:Int)] _ RS.out Try.underlying59 rfl size_fp ?_)
                  | ((with_reducible refine at_alloc 59 ?_); refine al_zero rfl 59 rfl PZ2 zero_fp ?_
                     intro Q wa hq9 hsz hxa)
                  | ((with_reducible refine at_store 59 ?_); refine st_at rfl rfl 59 _ _ rfl Q 0 _ #[.int .i64 (pi:Int),.int .i64 (pk:Int)] PZ2 #[.int .i64 (pi:Int),.int .i64 (pk:Int)] 59 rfl rfl rfl hq9 (by exact (by decide:0+2≤2)) (by kernel_rfl) rfl rfl ?_
                     intro wp hqs hms
                     have E:Ext wk wp:=hxa.mutE hms (fun j hj h=>by have h2:j=Q:=h; omega)
                     have c1:wp.cell? ⟨Q,0,none⟩=some (.int .i64 (pi:Int)):=BoxAt.cell (show BoxAt wp Q #[.int .i64 (pi:Int),.int .i64 (pk:Int)] 59 from hqs) 0 rfl
                     have c2:wp.cell? ⟨Y,0,none⟩=some (.int .i64 (pi:Int)):=(HYK.out.ext E).cell 0 rfl
                     have HXP:=Lib.hid E
                     clear hq9 hsz hxa hqs hms E))
                 go_roundw
                 case rel=>exact ⟨q+1,_,rfl,by go_num,by omega,by rw [HF2.out]; exact HNXK.out.ext HXP.out,by rw [HF2.out]; exact HVIK.out.ext HXP.out,HMUK.out.trans (HXP.out.mut _)⟩
                 case measure=>simp [intOf] <;> omega
                ·have e2:((pi:Int) == (bi:Int))=false:=by simp; omega
                 have e3:decide ((pi:Int)=(bi:Int))=false:=by simp; omega
                 have HPB:=Lib.hid hpb
                 clear hpb
                 go_wp2_with (first
                  | fail
                  | ((with_reducible refine at_load 59 ?_); refine wpList_load_mid rfl 59 _ rfl pb (po+q*2) rfl [.int .i64 (pi:Int),.int .i64 (pk:Int)] _ RS.out Try.underlying59 rfl size_fp ?_)
                  | ((with_reducible refine at_alloc 59 ?_); refine al_zero rfl 59 rfl PZ2 zero_fp ?_
                     intro Q wa hq9 hsz hxa)
                  | ((with_reducible refine at_store 59 ?_); refine st_at rfl rfl 59 _ _ rfl Q 0 _ #[.int .i64 (pi:Int),.int .i64 (pk:Int)] PZ2 #[.int .i64 (pi:Int),.int .i64 (pk:Int)] 59 rfl rfl rfl hq9 (by exact (by decide:0+2≤2)) (by kernel_rfl) rfl rfl ?_
                     intro wp hqs hms
                     have E:Ext wk wp:=hxa.mutE hms (fun j hj h=>by have h2:j=Q:=h; omega)
                     have HQ:=Lib.hid (show BoxAt wp Q #[.int .i64 (pi:Int),.int .i64 (pk:Int)] 59 from hqs)
                     have HQL:=Lib.hid (show wk.heap.size≤Q from by omega)
                     have c1:wp.cell? ⟨Q,0,none⟩=some (.int .i64 (pi:Int)):=HQ.out.cell 0 rfl
                     have c2:wp.cell? ⟨Y,0,none⟩=some (.int .i64 (bi:Int)):=(HYK.out.ext E).cell 0 rfl
                     have HXP0:=Lib.hid E
                     have HXP:=Lib.hid (HXK.out.trans E)
                     clear hq9 hsz hxa hqs hms E))
                 clear c1 c2 e2 e3
                 refine beginL (S:=fun W'=>Ext wp W') (by kernel_rfl) ?_
                 intro wd hqx
                 have hq0:Ext wp wd:=hqx
                 refine tLp 0 ((.pointer (some ⟨X,7,none⟩))) rfl hq0 ?_
                 simp only [ps]
                 refine tL 1 (_) rfl (yieldsIf_cell rfl 29 _ rfl ⟨X,7,none⟩ rfl (.slice (some ⟨nb,no,none⟩) n ncap) _ (fun W' hW'=>(HX.out.ext (HXP.out.trans hW')).cell 7 rfl) Try.underlying29 rfl) hq0 ?_
                 simp only [ps]
                 refine tLp 2 ((.pointer (some ⟨Q,0,none⟩))) rfl hq0 ?_
                 simp only [ps]
                 refine tL 3 (_) rfl (yieldsIf_cell rfl 3 _ rfl ⟨Q,0,none⟩ rfl (.int .i64 (pi:Int)) _ (fun W' hW'=>(HQ.out.ext hW').cell 0 rfl) Try.underlying3 rfl) hq0 ?_
                 simp only [ps]
                 refine tL 4 ((.pointer (some ⟨nb,no+pi*3,none⟩))) rfl (Or.inl ⟨rfl,fun W' _=>by go_simp <;> (intro h; omega)⟩) hq0 ?_
                 simp only [ps]
                 refine tLp 5 ((.pointer (some ⟨nb,no+pi*3+2,none⟩))) rfl hq0 ?_
                 simp only [ps]
                 refine tL 6 (_) rfl (yieldsIf_cell rfl 61 _ rfl ⟨nb,no+pi*3+2,none⟩ rfl (.slice (some ⟨pb2,po2,none⟩) np pcap) _ (fun W' hW'=>by have h:=HNR.out W' (HE.out.trans (HXP.out.trans hW')) 2 _ rfl; exact h) Try.underlying61 rfl) hq0 ?_
                 simp only [ps]
                 refine tLp 7 ((.pointer (some ⟨Q,1,none⟩))) rfl hq0 ?_
                 simp only [ps]
                 refine tL 8 (_) rfl (yieldsIf_cell rfl 3 _ rfl ⟨Q,1,none⟩ rfl (.int .i64 (pk:Int)) _ (fun W' hW'=>(HQ.out.ext hW').cell 1 rfl) Try.underlying3 rfl) hq0 ?_
                 simp only [ps]
                 refine tL 9 ((.pointer (some ⟨pb2,po2+pk*5,none⟩))) rfl (Or.inl ⟨rfl,fun W' _=>by go_simp <;> (intro h; omega)⟩) hq0 ?_
                 simp only [ps]
                 refine tL 10 (_) rfl (yieldsIf_load_mid rfl 67 _ rfl pb2 (po2+pk*5) rfl ([.int .u16 pt.pid,.int .u32 pt.cost,.bool pt.sh,.bool pt.ad,.bool pt.au]) _ (fun W' hW'=>HPR.out W' (HE.out.trans (HXP.out.trans hW'))) Try.underlying67 rfl size_stp) hq0 ?_
                 simp only [ps]
                 refine runL (i:=11) rfl rfl (by kernel_rfl) (fun K hK=>?_)
                 refine wp_al_zero 67 rfl STZ zero_stp (fun Z wa11 hrow11 hsz11 hx=>?_)
                 have hq1:=hq0.trans hx
                 have hlo11:wp.heap.size≤Z:=by have:=hq0.size; omega
                 clear hx
                 refine hK.out _ _ hq1 (fun hHeld=>?_)
                 try simp only [ps]
                 clear hK K hHeld
                 refine runL (i:=12) rfl rfl (by kernel_rfl) (fun K hK=>?_)
                 refine wp_st_at rfl 67 _ _ rfl Z 0 _ #[.int .u16 pt.pid,.int .u32 pt.cost,.bool pt.sh,.bool pt.ad,.bool pt.au] _ #[.int .u16 pt.pid,.int .u32 pt.cost,.bool pt.sh,.bool pt.ad,.bool pt.au] _ rfl rfl rfl hrow11 (by exact (by decide:0+5≤5)) (by kernel_rfl) rfl rfl (fun ws12 hrow12 hm=>?_)
                 have hq2:Ext wp ws12:=Ext.mutE hq1 hm (fun n hn h=>by have h2:n=Z:=h; omega)
                 clear hm
                 refine hK.out _ _ hq2 (fun hHeld=>?_)
                 try simp only [ps]
                 clear hK K hHeld
                 have hqF:=hq2
                 refine wpAnyH_done (by kernel_rfl) ?_ _
                 have HZ:=Lib.hid (show BoxAt ws12 Z #[.int .u16 pt.pid,.int .u32 pt.cost,.bool pt.sh,.bool pt.ad,.bool pt.au] 67 from hrow12)
                 have HX12:=Lib.hid (HXP0.out.trans hqF)
                 have HXZ:=Lib.hid (HXP.out.trans hqF)
                 have HYZ:=Lib.hid (HYK.out.ext HX12.out)
                 have HQZ:=Lib.hid (HQ.out.ext hqF)
                 have HVZ:=Lib.hid ((HV4.out.mut HMT.out (fun h=>by rcases h with h | h; exact HNE.out.1 h; exact HGN.out h)).ext HX12.out)
                 have HNXZ:=Lib.hid (HNXK.out.ext HX12.out)
                 have HVIZ:=Lib.hid (HVIK.out.ext HX12.out)
                 clear hrow12 hrow11 hlo11 hqF hsz11 hqx hq0 hq1 hq2
                 obtain ⟨tv,htv⟩:∃ v,tellF N D ((bi:Int),(bk:Int))=v:=⟨_,rfl⟩
                 have HTV:=Lib.hid htv
                 have HTC:=Lib.hid (show 0≤tv.cost∧tv.cost < 4294967296 from by rw [← htv]; exact getV_cost HCOST.out _)
                 obtain ⟨nc,hnc⟩:∃ x,thr tv.cost pt.cost=x:=⟨_,rfl⟩
                 have HNC:=Lib.hid hnc
                 have HNV:=Lib.hid (show newV N D (bestF N D L) ((pi:Int),(pk:Int))=⟨tv.root,nc,tv.br,tv.port,pt.pid⟩ from by
                  unfold newV thrV
                  rw [HBE.out,htv]
                  dsimp only
                  rw [Int.toNat_natCast,Int.toNat_natCast,HPT.out,hnc])
                 clear htv hnc
                 go_wp2_with fail
                 go_cut [16] from 155 to 163 (fun s wx=>∃ W9,s=.pointer (some ⟨W9,0,none⟩)∧BoxAt wx W9 #[.int .u64 tv.root,.int .u32 nc,.int .u64 tv.br,.int .u16 tv.port,.int .u16 pt.pid] 90∧ws12.heap.size≤W9∧Ext ws12 wx)
                 case rest =>
                  obtain ⟨W9,rfl,hrow10,hlo9,hqF⟩:=hcut
                  rename World=>ws10
                  have HW:=Lib.hid (show BoxAt ws10 W9 #[.int .u64 tv.root,.int .u32 nc,.int .u64 tv.br,.int .u16 tv.port,.int .u16 pt.pid] 90 from hrow10)
                  have HXW0:=Lib.hid (HX12.out.trans hqF)
                  have HQW:=Lib.hid (HQZ.out.ext hqF)
                  have HNXW:=Lib.hid (HNXZ.out.ext hqF)
                  have HVIW:=Lib.hid (HVIZ.out.ext hqF)
                  have HWN:=Lib.hid (show W9 ≠ g2∧Q ≠ g2∧Q ≠ GV from by
                   have h1:=hlo9
                   have h2:=HNXZ.out.lt
                   have h3:=HNXK.out.lt
                   have h4:=HVIK.out.lt
                   have h5:=HQL.out
                   exact ⟨by omega,by omega,by omega⟩)
                  clear hrow10 hlo9 hqF
                  have hor:=HNXW.out.range vcL_len default lpi
                  obtain ⟨ov,hov⟩:∃ v,sq.1.getD pi default=v:=⟨_,rfl⟩
                  rw [hov] at hor
                  have HOR:=Lib.hid hor
                  obtain ⟨cz,hcz1⟩:∃ z,c5 tv.root nc tv.br tv.port pt.pid ov.root ov.cost ov.br ov.port ov.rx=z:=⟨_,rfl⟩
                  have HCZ:=Lib.hid hcz1
                  have HFS2:=Lib.hid (show foldP N D st L (q+1)=if cz < 0 then (sq.1.set pi ⟨tv.root,nc,tv.br,tv.port,pt.pid⟩,sq.2.set pi ((pi:Int),(pk:Int))) else sq from by
                   rw [HFS.out]
                   unfold put1
                   rw [if_neg (by rw [HBE.out]; show ¬ (pi:Int)=(bi:Int); have:=HPB.out; omega),HNV.out]
                   dsimp only
                   rw [Int.toNat_natCast,hov]
                   unfold c5V
                   dsimp only
                   rw [hcz1])
                  clear hor hov hcz1
                  go_wp2_with fail
                  by_cases hcz0:cz < 0
                  ·have d0:decide (cz < 0)=true:=by simpa using hcz0
                   have HF3:=Lib.hid (show foldP N D st L (q+1)=(sq.1.set pi ⟨tv.root,nc,tv.br,tv.port,pt.pid⟩,sq.2.set pi ((pi:Int),(pk:Int))) from by rw [HFS2.out,if_pos hcz0])
                   refine beginL (S:=fun W'=>Ext ws10 W') (by kernel_rfl) ?_
                   intro wd hqx
                   have hq0:Ext ws10 wd:=hqx
                   refine tL 0 (_) rfl (yieldsIf_rowS rfl 90 _ rfl W9 rfl #[.int .u64 tv.root,.int .u32 nc,.int .u64 tv.br,.int .u16 tv.port,.int .u16 pt.pid] _ _ (fun W' hW'=>HW.out.ext hW') Try.underlying90 rfl size_vc) hq0 ?_
                   simp only [ps]
                   refine tLp 1 ((.slice (some ⟨g2,0,none⟩) n cap2)) rfl hq0 ?_
                   simp only [ps]
                   refine tLp 2 ((.pointer (some ⟨Q,0,none⟩))) rfl hq0 ?_
                   simp only [ps]
                   refine tL 3 (_) rfl (yieldsIf_cell rfl 3 _ rfl ⟨Q,0,none⟩ rfl (.int .i64 (pi:Int)) _ (fun W' hW'=>(HQW.out.ext hW').cell 0 rfl) Try.underlying3 rfl) hq0 ?_
                   simp only [ps]
                   refine tL 4 ((.pointer (some ⟨g2,pi*5,none⟩))) rfl (Or.inl ⟨rfl,fun W' _=>by go_simp <;> (intro h; omega)⟩) hq0 ?_
                   simp only [ps]
                   refine tL 5 (_) rfl (yieldsIf_load_mid rfl 90 _ rfl g2 (pi*5) rfl ([.int .u64 ov.root,.int .u32 ov.cost,.int .u64 ov.br,.int .u16 ov.port,.int .u16 ov.rx]) _ (fun W' hW'=>rangeR_ext HOR.out hW' HNXW.out.lt) Try.underlying90 rfl size_vc) hq0 ?_
                   simp only [ps]
                   refine runL (i:=6) rfl rfl (by kernel_rfl) (fun K hK=>?_)
                   go_simp
                   refine (asi (ref_cmp tv.root nc tv.br tv.port pt.pid ov.root ov.cost ov.br ov.port ov.rx wd) HCZ.out).mono ?_
                   rintro e wc1 ⟨rfl,hx⟩
                   have hq1:=hq0.trans hx
                   refine hK.out _ _ hq1 (fun hHeld=>?_)
                   try simp only [ps]
                   clear hK K hHeld
                   refine tL 7 ((.bool true)) rfl (Or.inl ⟨rfl,fun W' _=>by go_simp⟩) hq1 ?_
                   simp only [ps]
                   have hqF:=hq1
                   refine wpAnyH_done (by kernel_rfl) ?_ _
                   rename World=>wy
                   have HWY:=Lib.hid (HW.out.ext hqF)
                   have HQY:=Lib.hid (HQW.out.ext hqF)
                   have HNXY:=Lib.hid (HNXW.out.ext hqF)
                   have HVIY:=Lib.hid (HVIW.out.ext hqF)
                   have HXY:=Lib.hid (HXW0.out.trans hqF)
                   clear hqF hqx hq0
                   obtain ⟨cur,hcur,hcz3,-⟩:=HNXY.out.row
                   obtain ⟨cur2,hcur2,hcz4,-⟩:=HVIY.out.row
                   have HC:=Lib.hid hcur
                   have HC2:=Lib.hid hcur2
                   have hcs:pi*5+5≤cur.size:=by omega
                   have hcs2:pi*2+2≤cur2.size:=by omega
                   have c1:wy.cell? ⟨Q,0,none⟩=some (.int .i64 (pi:Int)):=HQY.out.cell 0 rfl
                   clear hcur hcur2
                   go_wp2_with (first
                    | fail
                    | ((with_reducible refine at_load 90 ?_); refine wpList_load_row rfl 90 _ rfl W9 rfl 90 #[.int .u64 tv.root,.int .u32 nc,.int .u64 tv.br,.int .u16 tv.port,.int .u16 pt.pid] (0,0) _ HWY.out Try.underlying90 rfl size_vc ?_)
                    | ((with_reducible refine at_store 90 ?_); refine st_at rfl rfl 90 _ _ rfl g2 (pi*5) _ #[.int .u64 tv.root,.int .u32 nc,.int .u64 tv.br,.int .u16 tv.port,.int .u16 pt.pid] cur _ 90 rfl rfl rfl HC.out (by show pi*5+5≤cur.size; omega) (by kernel_rfl) rfl rfl ?_
                       intro w7 hq7 hm7
                       have HNX7:=Lib.hid (HNXY.out.put vcL_len lpi ⟨tv.root,nc,tv.br,tv.port,pt.pid⟩ HC.out hq7 (by simp [vcL]))
                       have HVI7:=Lib.hid (HVIY.out.mut hm7 (fun h=>by have h2:GV=g2:=h; exact HNE.out.2.1 h2))
                       have HC7:=Lib.hid ((hm7.heap (heap_lt HC2.out) (fun h=>by have h2:GV=g2:=h; exact HNE.out.2.1 h2)).trans HC2.out)
                       have HQ7:=Lib.hid (HQY.out.mut hm7 (fun h=>by have h2:Q=g2:=h; exact HWN.out.2.1 h2))
                       have HMU7:=Lib.hid ((HMUK.out.trans (HXY.out.mut _)).trans (hm7.mono (fun j _ h=>.inl h)))
                       have c3:w7.cell? ⟨Q,0,none⟩=some (.int .i64 (pi:Int)):=HQ7.out.cell 0 rfl
                       clear hq7 hm7)
                    | ((with_reducible refine at_load 59 ?_); refine wpList_load_row rfl 59 _ rfl Q rfl 59 #[.int .i64 (pi:Int),.int .i64 (pk:Int)] (0,0) _ HQ7.out Try.underlying59 rfl size_fp ?_)
                    | ((with_reducible refine at_store 59 ?_); refine st_at rfl rfl 59 _ _ rfl GV (pi*2) _ #[.int .i64 (pi:Int),.int .i64 (pk:Int)] cur2 _ 59 rfl rfl rfl HC7.out (by show pi*2+2≤cur2.size; omega) (by kernel_rfl) rfl rfl ?_
                       intro w8 hq8 hm8
                       have HVI8:=Lib.hid (HVI7.out.put plL_len lpi ((pi:Int),(pk:Int)) HC7.out hq8 (by simp [plL]))
                       have HNX8:=Lib.hid (HNX7.out.mut hm8 (fun h=>by have h2:g2=GV:=h; exact HNE.out.2.1 h2.symm))
                       have HMU8:=Lib.hid (HMU7.out.trans (hm8.mono (fun j _ h=>.inr h)))
                       clear hq8 hm8))
                   go_roundw
                   case rel=>exact ⟨q+1,_,rfl,by go_num,by omega,by rw [HF3.out]; exact HNX8.out,by rw [HF3.out]; exact HVI8.out,HMU8.out⟩
                   case measure=>simp [intOf] <;> omega
                  ·have d0:decide (cz < 0)=false:=by simpa using hcz0
                   have HF3:=Lib.hid (show foldP N D st L (q+1)=sq from by rw [HFS2.out,if_neg hcz0])
                   refine beginL (S:=fun W'=>Ext ws10 W') (by kernel_rfl) ?_
                   intro wd hqx
                   have hq0:Ext ws10 wd:=hqx
                   refine tL 0 (_) rfl (yieldsIf_rowS rfl 90 _ rfl W9 rfl #[.int .u64 tv.root,.int .u32 nc,.int .u64 tv.br,.int .u16 tv.port,.int .u16 pt.pid] _ _ (fun W' hW'=>HW.out.ext hW') Try.underlying90 rfl size_vc) hq0 ?_
                   simp only [ps]
                   refine tLp 1 ((.slice (some ⟨g2,0,none⟩) n cap2)) rfl hq0 ?_
                   simp only [ps]
                   refine tLp 2 ((.pointer (some ⟨Q,0,none⟩))) rfl hq0 ?_
                   simp only [ps]
                   refine tL 3 (_) rfl (yieldsIf_cell rfl 3 _ rfl ⟨Q,0,none⟩ rfl (.int .i64 (pi:Int)) _ (fun W' hW'=>(HQW.out.ext hW').cell 0 rfl) Try.underlying3 rfl) hq0 ?_
                   simp only [ps]
                   refine tL 4 ((.pointer (some ⟨g2,pi*5,none⟩))) rfl (Or.inl ⟨rfl,fun W' _=>by go_simp <;> (intro h; omega)⟩) hq0 ?_
                   simp only [ps]
                   refine tL 5 (_) rfl (yieldsIf_load_mid rfl 90 _ rfl g2 (pi*5) rfl ([.int .u64 ov.root,.int .u32 ov.cost,.int .u64 ov.br,.int .u16 ov.port,.int .u16 ov.rx]) _ (fun W' hW'=>rangeR_ext HOR.out hW' HNXW.out.lt) Try.underlying90 rfl size_vc) hq0 ?_
                   simp only [ps]
                   refine runL (i:=6) rfl rfl (by kernel_rfl) (fun K hK=>?_)
                   go_simp
                   refine (asi (ref_cmp tv.root nc tv.br tv.port pt.pid ov.root ov.cost ov.br ov.port ov.rx wd) HCZ.out).mono ?_
                   rintro e wc1 ⟨rfl,hx⟩
                   have hq1:=hq0.trans hx
                   refine hK.out _ _ hq1 (fun hHeld=>?_)
                   try simp only [ps]
                   clear hK K hHeld
                   refine tL 7 ((.bool false)) rfl (Or.inl ⟨rfl,fun W' _=>by go_simp⟩) hq1 ?_
                   simp only [ps]
                   have hqF:=hq1
                   refine wpAnyH_done (by kernel_rfl) ?_ _
                   have HNXY:=Lib.hid (HNXW.out.ext hqF)
                   have HVIY:=Lib.hid (HVIW.out.ext hqF)
                   have HXY:=Lib.hid (HXW0.out.trans hqF)
                   clear hqF hqx hq0
                   go_wp2_with fail
                   go_roundw
                   case rel=>exact ⟨q+1,_,rfl,by go_num,by omega,by rw [HF3.out]; exact HNXY.out,by rw [HF3.out]; exact HVIY.out,HMUK.out.trans (HXY.out.mut _)⟩
                   case measure=>simp [intOf] <;> omega
                 refine beginL (S:=fun W'=>Ext ws12 W') (by kernel_rfl) ?_
                 intro wd hqx
                 have hq0:Ext ws12 wd:=hqx
                 refine tL 0 (_) rfl (yieldsIf_rowS rfl 32 _ rfl X rfl #[.int .i64 t0,.int .i64 t1,.int .i64 t2,.int .i64 t3,.int .i64 hold,.int .i64 room,.int .i64 age,.slice (some ⟨nb,no,none⟩) n ncap,.slice (some ⟨sb,so,none⟩) m scap] _ _ (fun W' hW'=>HX.out.ext (HXZ.out.trans hW')) Try.underlying32 rfl size_rn3) hq0 ?_
                 simp only [ps]
                 refine tLp 1 ((.slice (some ⟨g,0,none⟩) n cap)) rfl hq0 ?_
                 simp only [ps]
                 refine tL 2 (_) rfl (yieldsIf_rowS rfl 59 _ rfl Y rfl #[.int .i64 (bi:Int),.int .i64 (bk:Int)] _ _ (fun W' hW'=>HYZ.out.ext hW') Try.underlying59 rfl size_fp) hq0 ?_
                 simp only [ps]
                 refine tLp 4 ((.pointer (some ⟨Z,1,none⟩))) rfl hq0 ?_
                 simp only [ps]
                 refine tL 5 (_) rfl (yieldsIf_cell rfl 54 _ rfl ⟨Z,1,none⟩ rfl (.int .u32 pt.cost) _ (fun W' hW'=>(HZ.out.ext hW').cell 1 rfl) Try.underlying54 rfl) hq0 ?_
                 simp only [ps]
                 refine tLp 6 ((.pointer (some ⟨Z,0,none⟩))) rfl hq0 ?_
                 simp only [ps]
                 refine tL 7 (_) rfl (yieldsIf_cell rfl 65 _ rfl ⟨Z,0,none⟩ rfl (.int .u16 pt.pid) _ (fun W' hW'=>(HZ.out.ext hW').cell 0 rfl) Try.underlying65 rfl) hq0 ?_
                 simp only [ps]
                 refine runL2 (i:=3) (j:=9) rfl rfl rfl rfl (by kernel_rfl) (fun K hK=>?_) (fun K hK=>?_)
                 ·go_simp
                  refine (ftold_at t0 t1 t2 t3 hold room age nb no n ncap bi bk (.slice (some ⟨sb,so,none⟩) m scap) (.slice (some ⟨g,0,none⟩) n cap) N D tv wd HTV.out (HN.out.ext (HE.out.trans (HXZ.out.trans (by assumption)))) HNN.out (VsAt.of (HVZ.out.ext (by assumption)) (by omega)) v9 LB.out.1 LB.out.2 rfl).mono ?_
                  rintro e wc1 ⟨rfl,hx⟩
                  have hq1:=hq0.trans hx
                  refine hK.out _ _ hq1 (fun hHeld=>?_)
                  try simp only [ps]
                  clear hK K hHeld
                  refine runL2 (i:=8) (j:=9) rfl rfl rfl rfl (by kernel_rfl) (fun K hK=>?_) (fun K hK=>?_)
                  ·go_simp
                   refine (fthr_at tv.root tv.cost tv.br tv.port tv.rx pt.cost pt.pid nc wc1 HNC.out HTC.out HPC5.out).mono ?_
                   rintro e wc2 ⟨rfl,hx⟩
                   have hq2:=hq1.trans hx
                   refine hK.out _ _ hq2 (fun hHeld=>?_)
                   try simp only [ps]
                   clear hK K hHeld
                   refine runL (i:=9) rfl rfl (by kernel_rfl) (fun K hK=>?_)
                   refine wp_al_zero 90 rfl VZ5 zero_vc (fun W9 wa9 hrow9 hsz9 hx=>?_)
                   have hq3:=hq2.trans hx
                   have hlo9:ws12.heap.size≤W9:=by have:=hq2.size; omega
                   clear hx
                   refine hK.out _ _ hq3 (fun hHeld=>?_)
                   try simp only [ps]
                   clear hK K hHeld
                   refine runL (i:=10) rfl rfl (by kernel_rfl) (fun K hK=>?_)
                   refine wp_st_at rfl 90 _ _ rfl W9 0 _ #[.int .u64 tv.root,.int .u32 nc,.int .u64 tv.br,.int .u16 tv.port,.int .u16 pt.pid] _ #[.int .u64 tv.root,.int .u32 nc,.int .u64 tv.br,.int .u16 tv.port,.int .u16 pt.pid] _ rfl rfl rfl hrow9 (by exact (by decide:0+5≤5)) (by kernel_rfl) rfl rfl (fun ws10 hrow10 hm=>?_)
                   have hq4:Ext ws12 ws10:=Ext.mutE hq3 hm (fun n hn h=>by have h2:n=W9:=h; omega)
                   clear hm
                   refine hK.out _ _ hq4 (fun hHeld=>?_)
                   try simp only [ps]
                   clear hK K hHeld
                   refine wpAnyH_done (by kernel_rfl) ?_ _
                   have hqF:=hq4
                   go_wp2_with fail
                   go_meet
                   exact ⟨W9,rfl,hrow10,hlo9,hqF⟩
                  ·refine wp_al_zero 90 rfl VZ5 zero_vc (fun W9 wa9 hrow9 hsz9 hx=>?_)
                   have hq2:=hq1.trans hx
                   have hlo9:ws12.heap.size≤W9:=by have:=hq1.size; omega
                   clear hx
                   refine hK.out _ _ hq2 (fun hHeld=>?_)
                   try simp only [ps]
                   clear hK K hHeld
                   refine runL (i:=8) rfl rfl (by kernel_rfl) (fun K hK=>?_)
                   go_simp
                   refine (fthr_at tv.root tv.cost tv.br tv.port tv.rx pt.cost pt.pid nc wa9 HNC.out HTC.out HPC5.out).mono ?_
                   rintro e wc3 ⟨rfl,hx⟩
                   have hq3:=hq2.trans hx
                   have hrow9:=(hx.block _ (heap_lt hrow9)).trans hrow9
                   refine hK.out _ _ hq3 (fun hHeld=>?_)
                   try simp only [ps]
                   clear hK K hHeld
                   refine runL (i:=10) rfl rfl (by kernel_rfl) (fun K hK=>?_)
                   refine wp_st_at rfl 90 _ _ rfl W9 0 _ #[.int .u64 tv.root,.int .u32 nc,.int .u64 tv.br,.int .u16 tv.port,.int .u16 pt.pid] _ #[.int .u64 tv.root,.int .u32 nc,.int .u64 tv.br,.int .u16 tv.port,.int .u16 pt.pid] _ rfl rfl rfl hrow9 (by exact (by decide:0+5≤5)) (by kernel_rfl) rfl rfl (fun ws10 hrow10 hm=>?_)
                   have hq4:Ext ws12 ws10:=Ext.mutE hq3 hm (fun n hn h=>by have h2:n=W9:=h; omega)
                   clear hm
                   refine hK.out _ _ hq4 (fun hHeld=>?_)
                   try simp only [ps]
                   clear hK K hHeld
                   refine wpAnyH_done (by kernel_rfl) ?_ _
                   have hqF:=hq4
                   go_wp2_with fail
                   go_meet
                   exact ⟨W9,rfl,hrow10,hlo9,hqF⟩
                 ·refine wp_al_zero 90 rfl VZ5 zero_vc (fun W9 wa9 hrow9 hsz9 hx=>?_)
                  have hq1:=hq0.trans hx
                  have hlo9:ws12.heap.size≤W9:=by have:=hq0.size; omega
                  clear hx
                  refine hK.out _ _ hq1 (fun hHeld=>?_)
                  try simp only [ps]
                  clear hK K hHeld
                  refine runL (i:=3) rfl rfl (by kernel_rfl) (fun K hK=>?_)
                  go_simp
                  refine (ftold_at t0 t1 t2 t3 hold room age nb no n ncap bi bk (.slice (some ⟨sb,so,none⟩) m scap) (.slice (some ⟨g,0,none⟩) n cap) N D tv wa9 HTV.out (HN.out.ext (HE.out.trans (HXZ.out.trans (by assumption)))) HNN.out (VsAt.of (HVZ.out.ext (by assumption)) (by omega)) v9 LB.out.1 LB.out.2 rfl).mono ?_
                  rintro e wc2 ⟨rfl,hx⟩
                  have hq2:=hq1.trans hx
                  have hrow9:=(hx.block _ (heap_lt hrow9)).trans hrow9
                  refine hK.out _ _ hq2 (fun hHeld=>?_)
                  try simp only [ps]
                  clear hK K hHeld
                  refine runL (i:=8) rfl rfl (by kernel_rfl) (fun K hK=>?_)
                  go_simp
                  refine (fthr_at tv.root tv.cost tv.br tv.port tv.rx pt.cost pt.pid nc wc2 HNC.out HTC.out HPC5.out).mono ?_
                  rintro e wc3 ⟨rfl,hx⟩
                  have hq3:=hq2.trans hx
                  have hrow9:=(hx.block _ (heap_lt hrow9)).trans hrow9
                  refine hK.out _ _ hq3 (fun hHeld=>?_)
                  try simp only [ps]
                  clear hK K hHeld
                  refine runL (i:=10) rfl rfl (by kernel_rfl) (fun K hK=>?_)
                  refine wp_st_at rfl 90 _ _ rfl W9 0 _ #[.int .u64 tv.root,.int .u32 nc,.int .u64 tv.br,.int .u16 tv.port,.int .u16 pt.pid] _ #[.int .u64 tv.root,.int .u32 nc,.int .u64 tv.br,.int .u16 tv.port,.int .u16 pt.pid] _ rfl rfl rfl hrow9 (by exact (by decide:0+5≤5)) (by kernel_rfl) rfl rfl (fun ws10 hrow10 hm=>?_)
                  have hq4:Ext ws12 ws10:=Ext.mutE hq3 hm (fun n hn h=>by have h2:n=W9:=h; omega)
                  clear hm
                  refine hK.out _ _ hq4 (fun hHeld=>?_)
                  try simp only [ps]
                  clear hK K hHeld
                  refine wpAnyH_done (by kernel_rfl) ?_ _
                  have hqF:=hq4
                  go_wp2_with fail
                  go_meet
                  exact ⟨W9,rfl,hrow10,hlo9,hqF⟩
               ·have dql:decide ((q:Int) < (ll:Int))=false:=by simp; omega
                obtain rfl:ll=q:=by omega
                have hfa:=foldP_all N D st L
                rw [HLL.out] at hfa
                have HFA:=Lib.hid (show foldS N SR D (s+1)=foldP N D st L ll from by rw [HST.out,hfa])
                clear hfa
                go_wp2_with fail
                go_roundw
                case rel=>exact ⟨s+1,_,rfl,by go_num,hsm,by rw [HFA.out]; exact HNXK.out,by rw [HFA.out]; exact HVIK.out,HMT.out⟩
                case measure=>simp [intOf] <;> omega
            refine beginL (S:=fun W'=>Ext ws W') (by kernel_rfl) ?_
            intro wd hqx
            have hq0:Ext ws wd:=hqx
            refine tL 0 (_) rfl (yieldsIf_rowS rfl 32 _ rfl X rfl #[.int .i64 t0,.int .i64 t1,.int .i64 t2,.int .i64 t3,.int .i64 hold,.int .i64 room,.int .i64 age,.slice (some ⟨nb,no,none⟩) n ncap,.slice (some ⟨sb,so,none⟩) m scap] _ _ (fun W' hW'=>HX.out.ext (HXS.out.trans hW')) Try.underlying32 rfl size_rn3) hq0 ?_
            simp only [ps]
            refine tLp 1 ((.slice (some ⟨g,0,none⟩) n cap)) rfl hq0 ?_
            simp only [ps]
            refine tLp 2 ((.pointer (some ⟨X,8,none⟩))) rfl hq0 ?_
            simp only [ps]
            refine tL 3 (_) rfl (yieldsIf_cell rfl 30 _ rfl ⟨X,8,none⟩ rfl (.slice (some ⟨sb,so,none⟩) m scap) _ (fun W' hW'=>(HX.out.ext (HXS.out.trans hW')).cell 8 rfl) Try.underlying30 rfl) hq0 ?_
            simp only [ps]
            refine tLp 4 ((.int .i64 (s:Int))) rfl hq0 ?_
            simp only [ps]
            refine tL 5 ((.pointer (some ⟨sb,so+s,none⟩))) rfl (Or.inl ⟨rfl,fun W' _=>by go_simp <;> (intro h; omega)⟩) hq0 ?_
            simp only [ps]
            refine tL 6 (_) rfl (yieldsIf_cell rfl 49 _ rfl ⟨sb,so+s,none⟩ rfl (.slice (some ⟨pb,po,none⟩) ll scp) _ (fun W' hW'=>HCS.out W' (HE.out.trans (HXS.out.trans hW'))) Try.underlying49 rfl) hq0 ?_
            simp only [ps]
            refine runL2 (i:=7) (j:=8) rfl rfl rfl rfl (by kernel_rfl) (fun K hK=>?_) (fun K hK=>?_)
            ·go_simp
             refine (fbest_at t0 t1 t2 t3 hold room age nb no n ncap pb po ll scp bi bk (.slice (some ⟨sb,so,none⟩) m scap) (.slice (some ⟨g,0,none⟩) n cap) N D L wd HBE.out (HN.out.ext (HE.out.trans (HXS.out.trans (by assumption)))) HNN.out (VsAt.of (HVS.out.ext (by assumption)) (by omega)) v9 rfl (RowAt.ext HPL.out (HE.out.trans (HXS.out.trans (by assumption)))) HLL.out ⟨by omega,hl60⟩ HLOK.out).mono ?_
             rintro e wc1 ⟨rfl,hx⟩
             have hq1:=hq0.trans hx
             refine hK.out _ _ hq1 (fun hHeld=>?_)
             try simp only [ps]
             clear hK K hHeld
             refine runL (i:=8) rfl rfl (by kernel_rfl) (fun K hK=>?_)
             refine wp_al_zero 59 rfl PZ2 zero_fp (fun Y wa8 hrow8 hsz8 hx=>?_)
             have hq2:=hq1.trans hx
             have hlo8:ws.heap.size≤Y:=by have:=hq1.size; omega
             clear hx
             refine hK.out _ _ hq2 (fun hHeld=>?_)
             try simp only [ps]
             clear hK K hHeld
             refine runL (i:=9) rfl rfl (by kernel_rfl) (fun K hK=>?_)
             refine wp_st_at rfl 59 _ _ rfl Y 0 _ #[.int .i64 (bi:Int),.int .i64 (bk:Int)] _ #[.int .i64 (bi:Int),.int .i64 (bk:Int)] _ rfl rfl rfl hrow8 (by exact (by decide:0+2≤2)) (by kernel_rfl) rfl rfl (fun ws9 hrow9 hm=>?_)
             have hq3:Ext ws ws9:=Ext.mutE hq2 hm (fun n hn h=>by have h2:n=Y:=h; omega)
             clear hm
             refine hK.out _ _ hq3 (fun hHeld=>?_)
             try simp only [ps]
             clear hK K hHeld
             refine wpAnyH_done (by kernel_rfl) ?_ _
             have hqF:=hq3
             go_wp2_with fail
             go_meet
             exact ⟨Y,rfl,hrow9,hlo8,hqF⟩
            ·refine wp_al_zero 59 rfl PZ2 zero_fp (fun Y wa8 hrow8 hsz8 hx=>?_)
             have hq1:=hq0.trans hx
             have hlo8:ws.heap.size≤Y:=by have:=hq0.size; omega
             clear hx
             refine hK.out _ _ hq1 (fun hHeld=>?_)
             try simp only [ps]
             clear hK K hHeld
             refine runL (i:=7) rfl rfl (by kernel_rfl) (fun K hK=>?_)
             go_simp
             refine (fbest_at t0 t1 t2 t3 hold room age nb no n ncap pb po ll scp bi bk (.slice (some ⟨sb,so,none⟩) m scap) (.slice (some ⟨g,0,none⟩) n cap) N D L wa8 HBE.out (HN.out.ext (HE.out.trans (HXS.out.trans (by assumption)))) HNN.out (VsAt.of (HVS.out.ext (by assumption)) (by omega)) v9 rfl (RowAt.ext HPL.out (HE.out.trans (HXS.out.trans (by assumption)))) HLL.out ⟨by omega,hl60⟩ HLOK.out).mono ?_
             rintro e wc2 ⟨rfl,hx⟩
             have hq2:=hq1.trans hx
             have hrow8:=(hx.block _ (heap_lt hrow8)).trans hrow8
             refine hK.out _ _ hq2 (fun hHeld=>?_)
             try simp only [ps]
             clear hK K hHeld
             refine runL (i:=9) rfl rfl (by kernel_rfl) (fun K hK=>?_)
             refine wp_st_at rfl 59 _ _ rfl Y 0 _ #[.int .i64 (bi:Int),.int .i64 (bk:Int)] _ #[.int .i64 (bi:Int),.int .i64 (bk:Int)] _ rfl rfl rfl hrow8 (by exact (by decide:0+2≤2)) (by kernel_rfl) rfl rfl (fun ws9 hrow9 hm=>?_)
             have hq3:Ext ws ws9:=Ext.mutE hq2 hm (fun n hn h=>by have h2:n=Y:=h; omega)
             clear hm
             refine hK.out _ _ hq3 (fun hHeld=>?_)
             try simp only [ps]
             clear hK K hHeld
             refine wpAnyH_done (by kernel_rfl) ?_ _
             have hqF:=hq3
             go_wp2_with fail
             go_meet
             exact ⟨Y,rfl,hrow9,hlo8,hqF⟩
         ·have hre:=foldS_rest N SR D (SR.length - s) s (by rw [HSRL.out]; omega) (fun j hj hjl=>by
           rw [HSRL.out] at hjl
           rw [← HSR.out,raisedL_at U S (by rw [HM0.out]; exact hjl)]
           unfold raisedF
           rw [List.getD_eq_getElem?_getD,List.getElem?_eq_none (by rw [HUL.out]; omega)]
           rfl)
          have HNXE:=Lib.hid (show GAt 90 5 vcL ws g2 n cap2 (rP N SR (r+1)).1 from by rw [HRN.out,← hre]; exact HNX.out)
          have HVIE:=Lib.hid (show GAt 59 2 plL ws GV n n (rP N SR (r+1)).2 from by rw [HRN.out,← hre]; exact HVI.out)
          clear hre
          by_cases hsm:s < m
          ·have dlt:decide ((s:Int) < (m:Int))=true:=by simp; omega
           have dlu:decide ((s:Int) < (ul:Int))=false:=by simp; omega
           go_wp2_with fail
           go_roundw
           case rel=>exact ⟨r+1,g2,cap2,_,rfl,by go_num,rfl,by omega,HNXE.out,HVIE.out,fun e=>HNE.out.2.1 e.symm,HNE.out.2.2,HXS.out⟩
           case measure=>simp [intOf] <;> omega
          ·have dlt:decide ((s:Int) < (m:Int))=false:=by simp; omega
           go_wp2_with fail
           go_roundw
           case rel=>exact ⟨r+1,g2,cap2,_,rfl,by go_num,rfl,by omega,HNXE.out,HVIE.out,fun e=>HNE.out.2.1 e.symm,HNE.out.2.2,HXS.out⟩
           case measure=>simp [intOf] <;> omega
    ·have dlr:decide ((r:Int)≤(n:Int))=false:=by simp; omega
     obtain rfl:r=n+1:=by omega
     have HEV:=Lib.hid (show GAt 90 5 vcL wr g n cap (endP N SR).1 from by unfold endP; rw [HNN.out]; exact HVR.out)
     have HEP:=Lib.hid (show GAt 59 2 plL wr GV n n (endP N SR).2 from by unfold endP; rw [HNN.out]; exact HVIR.out)
     obtain ⟨EV,hEV⟩:∃ V,(endP N SR).1=V:=⟨_,rfl⟩
     obtain ⟨EP,hEP⟩:∃ V,(endP N SR).2=V:=⟨_,rfl⟩
     rw [hEV] at HEV
     rw [hEP] at HEP
     have HEV1:=Lib.hid hEV
     have HEP1:=Lib.hid hEP
     obtain ⟨BY,hBY⟩:∃ L,SR.map (byD N EV)=L:=⟨_,rfl⟩
     have HBY:=Lib.hid hBY
     have HBYL:=Lib.hid (show BY.length=m from by rw [← hBY,List.length_map]; exact HSRL.out)
     have HBYA:=Lib.hid (show ∀ s,s < m→BY.getD s (0,0)=byD N EV (SR.getD s []) from fun s hs=>by
      rw [← hBY,List.getD_eq_getElem?_getD,List.getElem?_map,List.getD_eq_getElem?_getD,List.getElem?_eq_getElem (by rw [HSRL.out]; exact hs)]
      rfl)
     have v9:=HEV.out.len
     clear hEV hEP hBY HVR HVIR
     go_wp2_with (first
      | fail
      | ((with_reducible refine at_alloc 51 ?_); refine al_zero rfl 51 rfl PNZ zero_dp ?_
         intro OB wa hqa hsza hxa)
      | ((with_reducible refine at_store 51 ?_); refine st_at rfl rfl 51 _ _ rfl OB 0 _ PNZ PNZ PNZ 51 rfl rfl rfl hqa (by exact (by decide:0+4≤4)) (by kernel_rfl) rfl rfl ?_
         intro w9 hqs hms
         have E:Ext wr w9:=hxa.mutE hms (fun j hj h=>by have h2:j=OB:=h; omega)
         have HPB:=Lib.hid (show BoxAt w9 OB PNZ 51 from hqs)
         have HOW:=Lib.hid (show wr.heap.size≤OB from by omega)
         have HX9:=Lib.hid (HXR.out.trans E)
         have HEV9:=Lib.hid (HEV.out.ext E)
         have HEP9:=Lib.hid (HEP.out.ext E)
         have HOG:=Lib.hid (show g ≠ OB∧GV ≠ OB from ⟨by have:=HEV.out.lt; omega,by have:=HEP.out.lt; omega⟩)
         clear hqa hsza hxa hqs hms E))
     clear x7
     obtain ⟨B9,hB9⟩:∃ B,w9.heap.size=B:=⟨_,rfl⟩
     have HB9:=Lib.hid hB9
     have HOBB:=Lib.hid (show OB < B9 from by rw [← hB9]; exact heap_lt HPB.out)
     have HOWW:=Lib.hid (show w2.heap.size≤OB from by have:=HXR.out.size; have:=HOW.out; omega)
     clear hB9
     go_loopw [18] (fun s wr=>∃ (k:Nat) (u:Value) (wo:World),wo=wr∧s=.int .i64 k∧k≤m∧BoxAt wo OB #[.slice none 0 0,.slice none 0 0,u,.slice none 0 0] 51∧wo.ownsRow B9 59 2 u k (flatP (BY.take k))∧Mut (fun g=>g=OB) w9 wo) (fun s _=>m - (intOf s).toNat)
     case atStart=>exact ⟨0,_,_,rfl,rfl,by omega,HPB.out,⟨rfl,.inl ⟨rfl,rfl⟩⟩,Mut.refl _ _⟩
     case round =>
      as_aux_lemma =>
       obtain ⟨k,u,wo,rfl,rfl,hk,hp,ho,hml⟩:=hrel
       rename World=>wl
       have HPR:=Lib.hid hp
       have HOB:=Lib.hid ho
       have HML:=Lib.hid hml
       have HXL:=Lib.hid (HX9.out.mutE hml (fun j h1 h2=>by have h3:j=OB:=h2; have h4:=HOWW.out; omega))
       have HEVL:=Lib.hid (HEV9.out.mut hml (fun h=>HOG.out.1 h))
       have HEPL:=Lib.hid (HEP9.out.mut hml (fun h=>HOG.out.2 h))
       obtain ⟨a3,c3,rfl⟩:=own_form2 HOB.out
       have x8:wl.cell? ⟨X,8,none⟩=some (.slice (some ⟨sb,so,none⟩) m scap):=(HX.out.ext HXL.out).cell 8 rfl
       have hupk:IntKind.i64.wrap ((k:Int)+1)=((k+1:Nat):Int):=by rw [IntKind.wrap_i64]; omega
       clear hp ho hml
       by_cases hlt:k < m
       ·have dlt:decide ((k:Int) < (m:Int))=true:=by simp; omega
        obtain ⟨b1,hb1⟩:∃ b,(BY.getD k (0,0)).1=b:=⟨_,rfl⟩
        obtain ⟨b2,hb2⟩:∃ b,(BY.getD k (0,0)).2=b:=⟨_,rfl⟩
        have HTS:=Lib.hid (show flatP (BY.take (k+1))=flatP (BY.take k) ++ [.int .i64 b1,.int .i64 b2] from by
         rw [take_snoc BY (0,0) (by rw [HBYL.out]; exact hlt),flatP_snoc,← hb1,← hb2]
         rfl)
        rw [HBYA.out k hlt] at hb1 hb2
        have hra:=raisedL_at U S (i:=k) (by rw [HM0.out]; exact hlt)
        rw [HSR.out] at hra
        unfold raisedF at hra
        by_cases hku:k < ul
        ·have dlu:decide ((k:Int) < (ul:Int))=true:=by simp; omega
         obtain ⟨ub,uo,rfl,hub⟩:=HUC.out (by omega)
         cases hb:U.getD k false with
         | false =>
             rw [hb] at hra
             have hra2:SR.getD k []=[]:=hra
             rw [hra2] at hb1 hb2
             have HB1:=Lib.hid (show b1=-1 from hb1.symm)
             have HB2:=Lib.hid (show b2=-1 from hb2.symm)
             clear hra hra2 hb1 hb2
             go_wp2_with (first
              | fail
              | ((with_reducible refine at_alloc 59 ?_); refine al_zero rfl 59 rfl PZ2 zero_fp ?_
                 intro A wa hqa hsza hxa)
              | ((with_reducible refine at_store 59 ?_); refine st_at rfl rfl 59 _ _ rfl A 0 _ #[.int .i64 (-1),.int .i64 (-1)] PZ2 #[.int .i64 (-1),.int .i64 (-1)] 59 rfl rfl rfl hqa (by exact (by decide:0+2≤2)) (by kernel_rfl) rfl rfl ?_
                 intro ws hqs hms
                 have E:Ext wl ws:=hxa.mutE hms (fun j hj h=>by have h2:j=A:=h; omega)
                 have HA0:=Lib.hid (show BoxAt ws A #[.int .i64 (-1),.int .i64 (-1)] 59 from hqs)
                 have HAW:=Lib.hid (show wl.heap.size≤A from by omega)
                 have HES:=Lib.hid E
                 have HXS:=Lib.hid (HXL.out.trans E)
                 have HOBs:=Lib.hid (ownR_ext HOB.out E)
                 have HPRs:=Lib.hid (HPR.out.ext E)
                 have HMs:=Lib.hid (HML.out.trans (E.mut _))
                 have o2:ws.cell? ⟨OB,2,none⟩=some (.slice a3 k c3):=HPRs.out.cell 2 rfl
                 have x8:ws.cell? ⟨X,8,none⟩=some (.slice (some ⟨sb,so,none⟩) m scap):=(HX.out.ext HXS.out).cell 8 rfl
                 have hu0:=hub ws (HE.out.trans HXS.out) k hku
                 rw [hb] at hu0
                 clear hqa hsza hxa hqs hms E)
              | ((with_reducible refine at_load 59 ?_); refine wpList_load_row rfl 59 _ rfl A rfl 59 #[.int .i64 b1,.int .i64 b2] (0,0) _ (by rw [HB1.out,HB2.out]; exact HA0.out) Try.underlying59 rfl size_fp ?_)
              | (at_builtin; refine wpList_append_own_at _ rfl _ _ 49 rfl B9 59 i2 (.agg PZ2) 2 16 Try.underlying49 I2.out.1 I2.out.2.1 I2.out.2.2.1 I2.out.2.2.2 rfl (by decide) _ k (flatP (BY.take k)) rfl (ownR_ext HOBs.out ((Ext.refl ws).alloc _)) ⟨ws.heap.size,0,none⟩ 1 1 [.int .i64 b1,.int .i64 b2] rfl rfl (fun j u hu=>World.news_of_block (heap_alloc_new ws (.cells #[.int .i64 b1,.int .i64 b2] 59)) j u (by simpa using hu)) (by
                   intro u hu
                   simp only [List.mem_cons,List.not_mem_nil,or_false] at hu
                   rcases hu with rfl | rfl <;> rfl) (by unfold maxLen; omega) (by omega) (by have h1:=HMs.out.size; have h2:=HB9.out; simp; omega) ?_
                 intro v7 wn ho7 hg7 _ hb7
                 obtain ⟨a7,c7,rfl⟩:=own_form2 ho7
                 have hxw:wn.heap[OB]?=some (.cells #[.slice none 0 0,.slice none 0 0,.slice a3 k c3,.slice none 0 0] 51 (0,0)):=(hg7.block OB (Nat.lt_of_lt_of_le (heap_lt HPRs.out) (by simp)) (fun e=>by have h1:=(own_lt2 HOBs.out e.symm).1; have h2:=HOBB.out; omega)).trans ((heap_alloc_old _ _ (heap_lt HPRs.out)).trans HPRs.out))
              | ((with_reducible refine at_store 49 ?_); refine st_at rfl rfl 49 _ _ rfl OB 2 _ #[.slice a7 (k+1) c7] #[.slice none 0 0,.slice none 0 0,.slice a3 k c3,.slice none 0 0] #[.slice none 0 0,.slice none 0 0,.slice a7 (k+1) c7,.slice none 0 0] 51 rfl rfl rfl hxw (by exact (by decide:2+1≤4)) (by kernel_rfl) rfl rfl ?_
                 intro wz hrow hm
                 have HFR:=app_fr ((Ext.refl ws).alloc (.cells #[.int .i64 b1,.int .i64 b2] 59)) hg7 hm
                 have HPN:=Lib.hid (show BoxAt wz OB #[.slice none 0 0,.slice none 0 0,.slice a7 (k+1) c7,.slice none 0 0] 51 from hrow)
                 have HON:=Lib.hid (show wz.ownsRow B9 59 2 (.slice a7 (k+1) c7) (k+1) (flatP (BY.take (k+1))) from by
                  rw [HTS.out]
                  exact own_mut ho7 hm (fun g h1 h2=>by have h3:=(own_lt2 ho7 h1).1; have h4:=HOBB.out; have h5:g=OB:=h2; omega))
                 have HMN:=Lib.hid (HMs.out.app HFR (fun g h1 h2=>by
                  rcases h2 with h2 | h2
                  ·exact h2
                  ·have h3:=(own_lt2 HOBs.out h2).1; have h4:=HB9.out; omega))
                 clear hxw hg7 ho7 hm hrow HFR))
             go_roundw
             case rel=>exact ⟨k+1,_,_,rfl,by go_num,by omega,HPN.out,HON.out,HMN.out⟩
             case measure=>simp [intOf] <;> omega
         | true =>
             rw [hb] at hra
             have hra2:SR.getD k []=S.getD k []:=hra
             have hmemS:S.getD k [] ∈ S:=by
              rw [List.getD_eq_getElem?_getD,List.getElem?_eq_getElem (by rw [HM0.out]; exact hlt)]
              exact List.getElem_mem _
             have hl60:=HOK.out.s60 _ hmemS
             have hlok:=HOK.out.sok _ hmemS
             obtain ⟨sa,scp,hc,hpl⟩:=HSG.out k hlt
             rw [hra2] at hb1 hb2
             obtain ⟨L,hL⟩:∃ L,S.getD k []=L:=⟨_,rfl⟩
             rw [hL] at hc hpl hl60 hlok hb1 hb2
             obtain ⟨ll,hll⟩:∃ l,L.length=l:=⟨_,rfl⟩
             unfold byD at hb1 hb2
             rw [hll] at hc hpl hl60 hb1 hb2
             have HLL:=Lib.hid hll
             have HCS:=Lib.hid hc
             have HPL:=Lib.hid hpl
             have HLOK:=Lib.hid hlok
             clear hc hpl hlok hL hll hra hra2 hmemS
             by_cases hl0:ll=0
             ·rw [if_pos hl0] at hb1 hb2
              have HB1:=Lib.hid (show b1=-1 from hb1.symm)
              have HB2:=Lib.hid (show b2=-1 from hb2.symm)
              subst hl0
              clear hb1 hb2
              go_wp2_with (first
               | fail
               | ((with_reducible refine at_alloc 59 ?_); refine al_zero rfl 59 rfl PZ2 zero_fp ?_
                  intro A wa hqa hsza hxa)
               | ((with_reducible refine at_store 59 ?_); refine st_at rfl rfl 59 _ _ rfl A 0 _ #[.int .i64 (-1),.int .i64 (-1)] PZ2 #[.int .i64 (-1),.int .i64 (-1)] 59 rfl rfl rfl hqa (by exact (by decide:0+2≤2)) (by kernel_rfl) rfl rfl ?_
                  intro ws hqs hms
                  have E:Ext wl ws:=hxa.mutE hms (fun j hj h=>by have h2:j=A:=h; omega)
                  have HA0:=Lib.hid (show BoxAt ws A #[.int .i64 (-1),.int .i64 (-1)] 59 from hqs)
                  have HAW:=Lib.hid (show wl.heap.size≤A from by omega)
                  have HES:=Lib.hid E
                  have HXS:=Lib.hid (HXL.out.trans E)
                  have HOBs:=Lib.hid (ownR_ext HOB.out E)
                  have HPRs:=Lib.hid (HPR.out.ext E)
                  have HMs:=Lib.hid (HML.out.trans (E.mut _))
                  have o2:ws.cell? ⟨OB,2,none⟩=some (.slice a3 k c3):=HPRs.out.cell 2 rfl
                  have x8:ws.cell? ⟨X,8,none⟩=some (.slice (some ⟨sb,so,none⟩) m scap):=(HX.out.ext HXS.out).cell 8 rfl
                  have hu0:=hub ws (HE.out.trans HXS.out) k hku
                  rw [hb] at hu0
                  have cseg:=HCS.out ws (HE.out.trans HXS.out)
                  clear hqa hsza hxa hqs hms E)
               | ((with_reducible refine at_load 59 ?_); refine wpList_load_row rfl 59 _ rfl A rfl 59 #[.int .i64 b1,.int .i64 b2] (0,0) _ (by rw [HB1.out,HB2.out]; exact HA0.out) Try.underlying59 rfl size_fp ?_)
               | (at_builtin; refine wpList_append_own_at _ rfl _ _ 49 rfl B9 59 i2 (.agg PZ2) 2 16 Try.underlying49 I2.out.1 I2.out.2.1 I2.out.2.2.1 I2.out.2.2.2 rfl (by decide) _ k (flatP (BY.take k)) rfl (ownR_ext HOBs.out ((Ext.refl ws).alloc _)) ⟨ws.heap.size,0,none⟩ 1 1 [.int .i64 b1,.int .i64 b2] rfl rfl (fun j u hu=>World.news_of_block (heap_alloc_new ws (.cells #[.int .i64 b1,.int .i64 b2] 59)) j u (by simpa using hu)) (by
                    intro u hu
                    simp only [List.mem_cons,List.not_mem_nil,or_false] at hu
                    rcases hu with rfl | rfl <;> rfl) (by unfold maxLen; omega) (by omega) (by have h1:=HMs.out.size; have h2:=HB9.out; simp; omega) ?_
                  intro v7 wn ho7 hg7 _ hb7
                  obtain ⟨a7,c7,rfl⟩:=own_form2 ho7
                  have hxw:wn.heap[OB]?=some (.cells #[.slice none 0 0,.slice none 0 0,.slice a3 k c3,.slice none 0 0] 51 (0,0)):=(hg7.block OB (Nat.lt_of_lt_of_le (heap_lt HPRs.out) (by simp)) (fun e=>by have h1:=(own_lt2 HOBs.out e.symm).1; have h2:=HOBB.out; omega)).trans ((heap_alloc_old _ _ (heap_lt HPRs.out)).trans HPRs.out))
               | ((with_reducible refine at_store 49 ?_); refine st_at rfl rfl 49 _ _ rfl OB 2 _ #[.slice a7 (k+1) c7] #[.slice none 0 0,.slice none 0 0,.slice a3 k c3,.slice none 0 0] #[.slice none 0 0,.slice none 0 0,.slice a7 (k+1) c7,.slice none 0 0] 51 rfl rfl rfl hxw (by exact (by decide:2+1≤4)) (by kernel_rfl) rfl rfl ?_
                  intro wz hrow hm
                  have HFR:=app_fr ((Ext.refl ws).alloc (.cells #[.int .i64 b1,.int .i64 b2] 59)) hg7 hm
                  have HPN:=Lib.hid (show BoxAt wz OB #[.slice none 0 0,.slice none 0 0,.slice a7 (k+1) c7,.slice none 0 0] 51 from hrow)
                  have HON:=Lib.hid (show wz.ownsRow B9 59 2 (.slice a7 (k+1) c7) (k+1) (flatP (BY.take (k+1))) from by
                   rw [HTS.out]
                   exact own_mut ho7 hm (fun g h1 h2=>by have h3:=(own_lt2 ho7 h1).1; have h4:=HOBB.out; have h5:g=OB:=h2; omega))
                  have HMN:=Lib.hid (HMs.out.app HFR (fun g h1 h2=>by
                   rcases h2 with h2 | h2
                   ·exact h2
                   ·have h3:=(own_lt2 HOBs.out h2).1; have h4:=HB9.out; omega))
                  clear hxw hg7 ho7 hm hrow HFR))
              go_roundw
              case rel=>exact ⟨k+1,_,_,rfl,by go_num,by omega,HPN.out,HON.out,HMN.out⟩
              case measure=>simp [intOf] <;> omega
             ·rw [if_neg hl0] at hb1 hb2
              have HB1:=Lib.hid hb1.symm
              have HB2:=Lib.hid hb2.symm
              have d0:decide ((0:Int) < (ll:Int))=true:=by simp; omega
              obtain ⟨a',cp',he',hlr⟩:=places_row HPL.out
              rw [HLL.out] at he' hlr
              obtain ⟨pb,po,ha',hlr2⟩:=hlr (by omega)
              simp only [Value.slice.injEq,true_and] at he'
              obtain ⟨rfl,rfl⟩:=he'
              subst ha'
              clear hb1 hb2 hlr hlr2
              go_wp2_with (first
               | fail
               | ((with_reducible refine at_alloc 59 ?_); refine al_zero rfl 59 rfl PZ2 zero_fp ?_
                  intro A wa hqa hsza hxa)
               | ((with_reducible refine at_store 59 ?_); refine st_at rfl rfl 59 _ _ rfl A 0 _ #[.int .i64 (-1),.int .i64 (-1)] PZ2 #[.int .i64 (-1),.int .i64 (-1)] 59 rfl rfl rfl hqa (by exact (by decide:0+2≤2)) (by kernel_rfl) rfl rfl ?_
                  intro ws hqs hms
                  have E:Ext wl ws:=hxa.mutE hms (fun j hj h=>by have h2:j=A:=h; omega)
                  have HA0:=Lib.hid (show BoxAt ws A #[.int .i64 (-1),.int .i64 (-1)] 59 from hqs)
                  have HAW:=Lib.hid (show wl.heap.size≤A from by omega)
                  have HES:=Lib.hid E
                  have HXS:=Lib.hid (HXL.out.trans E)
                  have HOBs:=Lib.hid (ownR_ext HOB.out E)
                  have HPRs:=Lib.hid (HPR.out.ext E)
                  have HMs:=Lib.hid (HML.out.trans (E.mut _))
                  have o2:ws.cell? ⟨OB,2,none⟩=some (.slice a3 k c3):=HPRs.out.cell 2 rfl
                  have x8:ws.cell? ⟨X,8,none⟩=some (.slice (some ⟨sb,so,none⟩) m scap):=(HX.out.ext HXS.out).cell 8 rfl
                  have hu0:=hub ws (HE.out.trans HXS.out) k hku
                  rw [hb] at hu0
                  have cseg:=HCS.out ws (HE.out.trans HXS.out)
                  clear hqa hsza hxa hqs hms E))
              clear o2 x8 cseg hu0
              have hAW:=HAW.out
              refine beginL (S:=fun W'=>Ext wl W') (by kernel_rfl) ?_
              intro wd hqx
              have hq0:Ext wl wd:=HES.out.trans hqx
              have hA:wd.heap[A]?=some (.cells #[.int .i64 (-1),.int .i64 (-1)] 59 (0,0)):=(hqx.block A (heap_lt HA0.out)).trans HA0.out
              refine tL 0 (_) rfl (yieldsIf_rowS rfl 32 _ rfl X rfl #[.int .i64 t0,.int .i64 t1,.int .i64 t2,.int .i64 t3,.int .i64 hold,.int .i64 room,.int .i64 age,.slice (some ⟨nb,no,none⟩) n ncap,.slice (some ⟨sb,so,none⟩) m scap] _ _ (fun W' hW'=>HX.out.ext (HXL.out.trans hW')) Try.underlying32 rfl size_rn3) hq0 ?_
              simp only [ps]
              refine tLp 1 ((.slice (some ⟨g,0,none⟩) n cap)) rfl hq0 ?_
              simp only [ps]
              refine tLp 2 ((.pointer (some ⟨X,8,none⟩))) rfl hq0 ?_
              simp only [ps]
              refine tL 3 (_) rfl (yieldsIf_cell rfl 30 _ rfl ⟨X,8,none⟩ rfl (.slice (some ⟨sb,so,none⟩) m scap) _ (fun W' hW'=>(HX.out.ext (HXL.out.trans hW')).cell 8 rfl) Try.underlying30 rfl) hq0 ?_
              simp only [ps]
              refine tLp 4 ((.int .i64 (k:Int))) rfl hq0 ?_
              simp only [ps]
              refine tL 5 ((.pointer (some ⟨sb,so+k,none⟩))) rfl (Or.inl ⟨rfl,fun W' _=>by go_simp <;> (intro h; omega)⟩) hq0 ?_
              simp only [ps]
              refine tL 6 (_) rfl (yieldsIf_cell rfl 49 _ rfl ⟨sb,so+k,none⟩ rfl (.slice (some ⟨pb,po,none⟩) ll scp) _ (fun W' hW'=>HCS.out W' (HE.out.trans (HXL.out.trans hW'))) Try.underlying49 rfl) hq0 ?_
              simp only [ps]
              refine runL (i:=7) rfl rfl (by kernel_rfl) (fun K hK=>?_)
              go_simp
              refine (fbest_any t0 t1 t2 t3 hold room age nb no n ncap pb po ll scp (.slice (some ⟨sb,so,none⟩) m scap) (.slice (some ⟨g,0,none⟩) n cap) N EV L wd (HN.out.ext (HE.out.trans (HXL.out.trans (by assumption)))) HNN.out (VsAt.of (HEVL.out.ext (by assumption)) (by omega)) v9 rfl (RowAt.ext HPL.out (HE.out.trans (HXL.out.trans (by assumption)))) HLL.out ⟨by omega,hl60⟩ HLOK.out).mono ?_
              rintro e wc1 ⟨rfl,hx⟩
              have hq1:=hq0.trans hx
              have hA:=(hx.block _ (heap_lt hA)).trans hA
              refine hK.out _ _ hq1 (fun hHeld=>?_)
              try simp only [ps]
              clear hK K hHeld
              refine runL (i:=8) rfl rfl (by kernel_rfl) (fun K hK=>?_)
              refine wp_st_at rfl 59 _ _ rfl A 0 _ #[.int .i64 (bestF N EV L).1,.int .i64 (bestF N EV L).2] _ #[.int .i64 (bestF N EV L).1,.int .i64 (bestF N EV L).2] _ rfl rfl rfl hA (by exact (by decide:0+2≤2)) (by kernel_rfl) rfl rfl (fun ws8 hrow8 hm=>?_)
              have hq2:Ext wl ws8:=Ext.mutE hq1 hm (fun n hn h=>by have h2:n=A:=h; omega)
              clear hm
              refine hK.out _ _ hq2 (fun hHeld=>?_)
              try simp only [ps]
              clear hK K hHeld
              have hqF:=hq2
              refine wpAnyH_done (by kernel_rfl) ?_ _
              have HA8:=Lib.hid (show BoxAt ws8 A #[.int .i64 (bestF N EV L).1,.int .i64 (bestF N EV L).2] 59 from hrow8)
              clear HOBs HPRs HMs
              have HOBs:=Lib.hid (ownR_ext HOB.out hqF)
              have HPRs:=Lib.hid (HPR.out.ext hqF)
              have HMs:=Lib.hid (HML.out.trans (hqF.mut _))
              have o2:ws8.cell? ⟨OB,2,none⟩=some (.slice a3 k c3):=HPRs.out.cell 2 rfl
              clear hrow8 hqF
              go_wp2_with (first
               | fail
               | ((with_reducible refine at_load 59 ?_); refine wpList_load_row rfl 59 _ rfl A rfl 59 #[.int .i64 b1,.int .i64 b2] (0,0) _ (by rw [HB1.out,HB2.out]; exact HA8.out) Try.underlying59 rfl size_fp ?_)
               | (at_builtin; refine wpList_append_own_at _ rfl _ _ 49 rfl B9 59 i2 (.agg PZ2) 2 16 Try.underlying49 I2.out.1 I2.out.2.1 I2.out.2.2.1 I2.out.2.2.2 rfl (by decide) _ k (flatP (BY.take k)) rfl (ownR_ext HOBs.out ((Ext.refl ws8).alloc _)) ⟨ws8.heap.size,0,none⟩ 1 1 [.int .i64 b1,.int .i64 b2] rfl rfl (fun j u hu=>World.news_of_block (heap_alloc_new ws8 (.cells #[.int .i64 b1,.int .i64 b2] 59)) j u (by simpa using hu)) (by
                    intro u hu
                    simp only [List.mem_cons,List.not_mem_nil,or_false] at hu
                    rcases hu with rfl | rfl <;> rfl) (by unfold maxLen; omega) (by omega) (by have h1:=HMs.out.size; have h2:=HB9.out; simp; omega) ?_
                  intro v7 wn ho7 hg7 _ hb7
                  obtain ⟨a7,c7,rfl⟩:=own_form2 ho7
                  have hxw:wn.heap[OB]?=some (.cells #[.slice none 0 0,.slice none 0 0,.slice a3 k c3,.slice none 0 0] 51 (0,0)):=(hg7.block OB (Nat.lt_of_lt_of_le (heap_lt HPRs.out) (by simp)) (fun e=>by have h1:=(own_lt2 HOBs.out e.symm).1; have h2:=HOBB.out; omega)).trans ((heap_alloc_old _ _ (heap_lt HPRs.out)).trans HPRs.out))
               | ((with_reducible refine at_store 49 ?_); refine st_at rfl rfl 49 _ _ rfl OB 2 _ #[.slice a7 (k+1) c7] #[.slice none 0 0,.slice none 0 0,.slice a3 k c3,.slice none 0 0] #[.slice none 0 0,.slice none 0 0,.slice a7 (k+1) c7,.slice none 0 0] 51 rfl rfl rfl hxw (by exact (by decide:2+1≤4)) (by kernel_rfl) rfl rfl ?_
                  intro wz hrow hm
                  have HFR:=app_fr ((Ext.refl ws8).alloc (.cells #[.int .i64 b1,.int .i64 b2] 59)) hg7 hm
                  have HPN:=Lib.hid (show BoxAt wz OB #[.slice none 0 0,.slice none 0 0,.slice a7 (k+1) c7,.slice none 0 0] 51 from hrow)
                  have HON:=Lib.hid (show wz.ownsRow B9 59 2 (.slice a7 (k+1) c7) (k+1) (flatP (BY.take (k+1))) from by
                   rw [HTS.out]
                   exact own_mut ho7 hm (fun g h1 h2=>by have h3:=(own_lt2 ho7 h1).1; have h4:=HOBB.out; have h5:g=OB:=h2; omega))
                  have HMN:=Lib.hid (HMs.out.app HFR (fun g h1 h2=>by
                   rcases h2 with h2 | h2
                   ·exact h2
                   ·have h3:=(own_lt2 HOBs.out h2).1; have h4:=HB9.out; omega))
                  clear hxw hg7 ho7 hm hrow HFR))
              go_roundw
              case rel=>exact ⟨k+1,_,_,rfl,by go_num,by omega,HPN.out,HON.out,HMN.out⟩
              case measure=>simp [intOf] <;> omega
        ·have dlu:decide ((k:Int) < (ul:Int))=false:=by simp; omega
         rw [List.getD_eq_getElem?_getD (l:=U),List.getElem?_eq_none (by rw [HUL.out]; omega)] at hra
         have hra2:SR.getD k []=[]:=hra
         rw [hra2] at hb1 hb2
         have HB1:=Lib.hid (show b1=-1 from hb1.symm)
         have HB2:=Lib.hid (show b2=-1 from hb2.symm)
         clear hra hra2 hb1 hb2
         go_wp2_with (first
          | fail
          | ((with_reducible refine at_alloc 59 ?_); refine al_zero rfl 59 rfl PZ2 zero_fp ?_
             intro A wa hqa hsza hxa)
          | ((with_reducible refine at_store 59 ?_); refine st_at rfl rfl 59 _ _ rfl A 0 _ #[.int .i64 (-1),.int .i64 (-1)] PZ2 #[.int .i64 (-1),.int .i64 (-1)] 59 rfl rfl rfl hqa (by exact (by decide:0+2≤2)) (by kernel_rfl) rfl rfl ?_
             intro ws hqs hms
             have E:Ext wl ws:=hxa.mutE hms (fun j hj h=>by have h2:j=A:=h; omega)
             have HA0:=Lib.hid (show BoxAt ws A #[.int .i64 (-1),.int .i64 (-1)] 59 from hqs)
             have HAW:=Lib.hid (show wl.heap.size≤A from by omega)
             have HES:=Lib.hid E
             have HXS:=Lib.hid (HXL.out.trans E)
             have HOBs:=Lib.hid (ownR_ext HOB.out E)
             have HPRs:=Lib.hid (HPR.out.ext E)
             have HMs:=Lib.hid (HML.out.trans (E.mut _))
             have o2:ws.cell? ⟨OB,2,none⟩=some (.slice a3 k c3):=HPRs.out.cell 2 rfl
             have x8:ws.cell? ⟨X,8,none⟩=some (.slice (some ⟨sb,so,none⟩) m scap):=(HX.out.ext HXS.out).cell 8 rfl
             clear hqa hsza hxa hqs hms E)
          | ((with_reducible refine at_load 59 ?_); refine wpList_load_row rfl 59 _ rfl A rfl 59 #[.int .i64 b1,.int .i64 b2] (0,0) _ (by rw [HB1.out,HB2.out]; exact HA0.out) Try.underlying59 rfl size_fp ?_)
          | (at_builtin; refine wpList_append_own_at _ rfl _ _ 49 rfl B9 59 i2 (.agg PZ2) 2 16 Try.underlying49 I2.out.1 I2.out.2.1 I2.out.2.2.1 I2.out.2.2.2 rfl (by decide) _ k (flatP (BY.take k)) rfl (ownR_ext HOBs.out ((Ext.refl ws).alloc _)) ⟨ws.heap.size,0,none⟩ 1 1 [.int .i64 b1,.int .i64 b2] rfl rfl (fun j u hu=>World.news_of_block (heap_alloc_new ws (.cells #[.int .i64 b1,.int .i64 b2] 59)) j u (by simpa using hu)) (by
               intro u hu
               simp only [List.mem_cons,List.not_mem_nil,or_false] at hu
               rcases hu with rfl | rfl <;> rfl) (by unfold maxLen; omega) (by omega) (by have h1:=HMs.out.size; have h2:=HB9.out; simp; omega) ?_
             intro v7 wn ho7 hg7 _ hb7
             obtain ⟨a7,c7,rfl⟩:=own_form2 ho7
             have hxw:wn.heap[OB]?=some (.cells #[.slice none 0 0,.slice none 0 0,.slice a3 k c3,.slice none 0 0] 51 (0,0)):=(hg7.block OB (Nat.lt_of_lt_of_le (heap_lt HPRs.out) (by simp)) (fun e=>by have h1:=(own_lt2 HOBs.out e.symm).1; have h2:=HOBB.out; omega)).trans ((heap_alloc_old _ _ (heap_lt HPRs.out)).trans HPRs.out))
          | ((with_reducible refine at_store 49 ?_); refine st_at rfl rfl 49 _ _ rfl OB 2 _ #[.slice a7 (k+1) c7] #[.slice none 0 0,.slice none 0 0,.slice a3 k c3,.slice none 0 0] #[.slice none 0 0,.slice none 0 0,.slice a7 (k+1) c7,.slice none 0 0] 51 rfl rfl rfl hxw (by exact (by decide:2+1≤4)) (by kernel_rfl) rfl rfl ?_
             intro wz hrow hm
             have HFR:=app_fr ((Ext.refl ws).alloc (.cells #[.int .i64 b1,.int .i64 b2] 59)) hg7 hm
             have HPN:=Lib.hid (show BoxAt wz OB #[.slice none 0 0,.slice none 0 0,.slice a7 (k+1) c7,.slice none 0 0] 51 from hrow)
             have HON:=Lib.hid (show wz.ownsRow B9 59 2 (.slice a7 (k+1) c7) (k+1) (flatP (BY.take (k+1))) from by
              rw [HTS.out]
              exact own_mut ho7 hm (fun g h1 h2=>by have h3:=(own_lt2 ho7 h1).1; have h4:=HOBB.out; have h5:g=OB:=h2; omega))
             have HMN:=Lib.hid (HMs.out.app HFR (fun g h1 h2=>by
              rcases h2 with h2 | h2
              ·exact h2
              ·have h3:=(own_lt2 HOBs.out h2).1; have h4:=HB9.out; omega))
             clear hxw hg7 ho7 hm hrow HFR))
         go_roundw
         case rel=>exact ⟨k+1,_,_,rfl,by go_num,by omega,HPN.out,HON.out,HMN.out⟩
         case measure=>simp [intOf] <;> omega
       ·have dlt:decide ((k:Int) < (m:Int))=false:=by simp; omega
        obtain rfl:m=k:=by omega
        as_aux_lemma =>
         have hby:BY.take m=BY:=List.take_of_length_le (by rw [HBYL.out]; exact Nat.le_refl _)
         have hob:=HOB.out
         rw [hby] at hob
         have hfam1:Fam wl B9 1 (fun _=>(⟨.slice a3 m c3,59,2,m,flatP BY⟩:OS)):=⟨fun k _=>hob,fun j k hj hk hne=>by omega⟩
         have HFM0:=Lib.hid (((hfam1.nil 53 1).nil 54 1).nil 56 1)
         obtain ⟨R,hR⟩:∃ l,EV.map Vc.root=l:=⟨_,rfl⟩
         obtain ⟨C,hC⟩:∃ l,EV.map Vc.cost=l:=⟨_,rfl⟩
         obtain ⟨RL,hRL⟩:∃ f,(fun i:Nat=>(List.range (npA N i)).map (fun k:Nat=>roleD (segF SR) BY (EP.getD i (0,0)) ((i:Int),(k:Int))))=f:=⟨_,rfl⟩
         have HR:=Lib.hid hR
         have HC:=Lib.hid hC
         have HRL:=Lib.hid hRL
         have HRLL:=Lib.hid (show ∀ i,(RL i).length=npA N i from fun i=>by rw [← hRL]; simp)
         have HRLA:=Lib.hid (show ∀ i k,k < npA N i→(RL i).getD k 0=roleD (segF SR) BY (EP.getD i (0,0)) ((i:Int),(k:Int)) from fun i k hk=>by
          rw [← hRL,List.getD_eq_getElem?_getD,List.getElem?_map,List.getElem?_range hk]
          rfl)
         have HRN2:=Lib.hid (show R.length=n∧C.length=n from by rw [← hR,← hC,List.length_map,List.length_map]; exact ⟨v9,v9⟩)
         have HRA:=Lib.hid (show ∀ i,i < n→R.getD i 0=(EV.getD i default).root∧C.getD i 0=(EV.getD i default).cost from fun i hi=>by
          have hi2:i < EV.length:=by rw [v9]; exact hi
          rw [← hR,← hC]
          simp [List.getD_eq_getElem?_getD,hi2])
         have HFD0:=Lib.hid (show FamD (upd (upd (upd (fun _=>(⟨.slice a3 m c3,59,2,m,flatP BY⟩:OS)) 1 ⟨.slice none 0 0,53,1,0,[]⟩) 2 ⟨.slice none 0 0,54,1,0,[]⟩) 3 ⟨.slice none 0 0,56,1,0,[]⟩) (.slice a3 m c3) BY R C RL 0 0 0 from
          ⟨by rw [HBYL.out]; rfl,rfl,rfl,rfl,fun j hj=>by omega⟩)
         have HB92:=Lib.hid (show w2.heap.size≤B9 from by have h1:=HOBB.out; have h2:=HOWW.out; omega)
         have HGB9:=Lib.hid (show g < B9 from by have h1:=HEV9.out.lt; have h2:=HB9.out; omega)
         have HGV9:=Lib.hid (show GV < B9 from by have h1:=HEP9.out.lt; have h2:=HB9.out; omega)
         have HPR0:=HPR
         have HML0:=HML
         obtain ⟨i1,hi1,hz1,hs1',hb1⟩:=info_parts info_u64
         have I1:=Lib.hid (And.intro hi1 (And.intro hz1 (And.intro hs1' hb1)))
         obtain ⟨i3,hi3,hz3,hs3,hb3⟩:=info_parts info_u32
         have I3:=Lib.hid (And.intro hi3 (And.intro hz3 (And.intro hs3 hb3)))
         obtain ⟨i4,hi4,hz4,hs4,hb4⟩:=info_parts info_is
         have I4:=Lib.hid (And.intro hi4 (And.intro hz4 (And.intro hs4 hb4)))
         obtain ⟨i7,hi7,hz7,hs7,hb7⟩:=info_parts info_int
         have I7:=Lib.hid (And.intro hi7 (And.intro hz7 (And.intro hs7 hb7)))
         clear hby hob hfam1 hR hC hRL hi1 hz1 hs1' hb1 hi3 hz3 hs3 hb3 hi4 hz4 hs4 hb4 hi7 hz7 hs7 hb7 HPR HML HXL HEVL HEPL HOB
         go_wp2_with fail
         clear x8
         go_loopw [20] (fun s wr=>∃ (k:Nat) (F:Nat→OS) (wo:World),wo=wr∧s=.int .i64 k∧k≤n∧Fam wo B9 (4+k) F∧FamD F (.slice a3 m c3) BY R C RL k k k∧BoxAt wo OB #[(F 1).v,(F 2).v,.slice a3 m c3,(F 3).v] 51∧Mut (fun g=>g=OB) w9 wo) (fun s _=>n - (intOf s).toNat)
         case atStart=>exact ⟨0,_,_,rfl,rfl,by omega,HFM0.out,HFD0.out,HPR0.out,HML0.out⟩
         case round =>
          as_aux_lemma =>
           clear HFM0 HFD0 HPR0 HML0
           obtain ⟨k,F,wo,rfl,rfl,hk,hfm,hfd,hp,hml⟩:=hrel
           rename World=>wl
           have hn1:=hfm.1 1 (by omega)
           rw [hfd.h1] at hn1
           have hn1:wl.ownsRow B9 53 1 (F 1).v k (kv .u64 (R.take k)):=hn1
           have hn2:=hfm.1 2 (by omega)
           rw [hfd.h2] at hn2
           have hn2:wl.ownsRow B9 54 1 (F 2).v k (kv .u32 (C.take k)):=hn2
           have hn3:=hfm.1 3 (by omega)
           rw [hfd.h3] at hn3
           have hn3:wl.ownsRow B9 56 1 (F 3).v k ((List.range k).map (fun j=>(F (4+j)).v)):=hn3
           obtain ⟨u1,hu1⟩:∃ u,(F 1).v=u:=⟨_,rfl⟩
           obtain ⟨u2,hu2⟩:∃ u,(F 2).v=u:=⟨_,rfl⟩
           obtain ⟨u3,hu3⟩:∃ u,(F 3).v=u:=⟨_,rfl⟩
           rw [hu1] at hn1 hp
           rw [hu2] at hn2 hp
           rw [hu3] at hn3 hp
           obtain ⟨a1,c1,rfl⟩:=own_form2 hn1
           obtain ⟨a2,c2,rfl⟩:=own_form2 hn2
           obtain ⟨a4,c4,rfl⟩:=own_form2 hn3
           have HU1:=Lib.hid hu1
           have HU2:=Lib.hid hu2
           have HU3:=Lib.hid hu3
           have HN1:=Lib.hid hn1
           have HFM:=Lib.hid hfm
           have HFD:=Lib.hid hfd
           have HPR:=Lib.hid hp
           have HML:=Lib.hid hml
           have HXL:=Lib.hid (HX9.out.mutE hml (fun j h1 h2=>by have h3:j=OB:=h2; have h4:=HOWW.out; omega))
           have HEVL:=Lib.hid (HEV9.out.mut hml (fun h=>HOG.out.1 h))
           have HEPL:=Lib.hid (HEP9.out.mut hml (fun h=>HOG.out.2 h))
           have HBL:=Lib.hid (show B9≤wl.heap.size from by rw [← HB9.out]; exact hml.size)
           have x7:wl.cell? ⟨X,7,none⟩=some (.slice (some ⟨nb,no,none⟩) n ncap):=(HX.out.ext HXL.out).cell 7 rfl
           have hupk:IntKind.i64.wrap ((k:Int)+1)=((k+1:Nat):Int):=by rw [IntKind.wrap_i64]; omega
           clear hfm hfd hp hml hu1 hu2 hu3 hn1 hn2 hn3
           by_cases hlt:k < n
           ·have dlt:decide ((k:Int) < (n:Int))=true:=by simp; omega
            obtain ⟨ev,hev⟩:∃ v,EV.getD k default=v:=⟨_,rfl⟩
            have hra:=HRA.out k hlt
            rw [hev] at hra
            have HTK1:=Lib.hid (show kv .u64 (R.take (k+1))=kv .u64 (R.take k) ++ [.int .u64 ev.root] from by
             rw [take_snoc R 0 (by rw [HRN2.out.1]; exact hlt),hra.1]
             simp [kv])
            have HTK2:=Lib.hid (show kv .u32 (C.take (k+1))=kv .u32 (C.take k) ++ [.int .u32 ev.cost] from by
             rw [take_snoc C 0 (by rw [HRN2.out.2]; exact hlt),hra.2]
             simp [kv])
            have hrg:=HEVL.out.range vcL_len default hlt
            rw [hev] at hrg
            obtain ⟨curE,hcurE,-,-⟩:=HEVL.out.row
            have HCE:=Lib.hid hcurE
            have HCA0:=Lib.hid (show curE[k*5]?=some (.int .u64 ev.root) from by
             have h:=hrg 0 _ rfl
             rw [Nat.add_zero,cell_row hcurE] at h
             exact h)
            have HCA1:=Lib.hid (show curE[k*5+1]?=some (.int .u32 ev.cost) from by
             have h:=hrg 1 _ rfl
             rw [cell_row hcurE] at h
             exact h)
            clear hev hra hrg hcurE
            go_wp2_with fail
            refine beginZ (S:=fun W'=>Ext w2 W'∧W'.heap[OB]?=some (.cells #[.slice a1 k c1,.slice a2 k c2,.slice a3 m c3,.slice a4 k c4] 51 (0,0))∧W'.heap[g]?=some (.cells curE 90 (0,0))) 10 (by kernel_rfl) ?_
            intro wd hqx
            have hq0:(fun W'=>Ext w2 W'∧W'.heap[OB]?=some (.cells #[.slice a1 k c1,.slice a2 k c2,.slice a3 m c3,.slice a4 k c4] 51 (0,0))∧W'.heap[g]?=some (.cells curE 90 (0,0))) wd:=⟨HXL.out.trans hqx,(hqx.block OB (heap_lt (HPR.out))).trans (HPR.out),(hqx.block g (heap_lt (HCE.out))).trans (HCE.out)⟩
            refine takeZ (i:=0) (z:=10) (v:=(.pointer (some ⟨OB,0,none⟩))) rfl rfl (by kernel_rfl) (by kernel_rfl) (by kernel_rfl) (by kernel_rfl) (by kernel_rfl) (by kernel_rfl) (fun _ _ _ h=>h) (Or.inl ⟨rfl,fun _ _=>rfl⟩) hq0 ?_
            simp only [ps]
            refine takeZ (i:=1) (z:=10) (v:=_) rfl rfl (by kernel_rfl) (by kernel_rfl) (by kernel_rfl) (by kernel_rfl) (by kernel_rfl) (by kernel_rfl) (fun _ _ _ h=>h) (yieldsIf_cell rfl 37 _ rfl ⟨OB,0,none⟩ rfl (.slice a1 k c1) _ (fun W' hW'=>(show W'.cell? ⟨OB,0,none⟩=_ by rw [cell_row hW'.2.1]; rfl)) Try.underlying37 rfl) hq0 ?_
            simp only [ps]
            refine takeZ (i:=2) (z:=10) (v:=(.slice (some ⟨g,0,none⟩) n cap)) rfl rfl (by kernel_rfl) (by kernel_rfl) (by kernel_rfl) (by kernel_rfl) (by kernel_rfl) (by kernel_rfl) (fun _ _ _ h=>h) (Or.inl ⟨rfl,fun _ _=>rfl⟩) hq0 ?_
            simp only [ps]
            refine takeZ (i:=3) (z:=10) (v:=(.int .i64 (k:Int))) rfl rfl (by kernel_rfl) (by kernel_rfl) (by kernel_rfl) (by kernel_rfl) (by kernel_rfl) (by kernel_rfl) (fun _ _ _ h=>h) (Or.inl ⟨rfl,fun _ _=>rfl⟩) hq0 ?_
            simp only [ps]
            refine takeZ (i:=4) (z:=10) (v:=(.pointer (some ⟨g,k*5,none⟩))) rfl rfl (by kernel_rfl) (by kernel_rfl) (by kernel_rfl) (by kernel_rfl) (by kernel_rfl) (by kernel_rfl) (fun _ _ _ h=>h) (Or.inl ⟨rfl,fun W' _=>by go_simp <;> (intro h; omega)⟩) hq0 ?_
            simp only [ps]
            refine takeZ (i:=5) (z:=10) (v:=(.pointer (some ⟨g,k*5,none⟩))) rfl rfl (by kernel_rfl) (by kernel_rfl) (by kernel_rfl) (by kernel_rfl) (by kernel_rfl) (by kernel_rfl) (fun _ _ _ h=>h) (Or.inl ⟨rfl,fun _ _=>rfl⟩) hq0 ?_
            simp only [ps]
            refine takeZ (i:=6) (z:=10) (v:=_) rfl rfl (by kernel_rfl) (by kernel_rfl) (by kernel_rfl) (by kernel_rfl) (by kernel_rfl) (by kernel_rfl) (fun _ _ _ h=>h) (yieldsIf_cell rfl 53 _ rfl ⟨g,k*5,none⟩ rfl (.int .u64 ev.root) _ (fun W' hW'=>(cell_row hW'.2.2 _).trans HCA0.out) Try.underlying53 rfl) hq0 ?_
            simp only [ps]
            refine runZ (i:=7) rfl rfl (by kernel_rfl) (fun K hK=>?_)
            refine wp_buildSlice 37 53 1 _ rfl #[.int .u64 ev.root] i1 (.int .u64 0) Try.underlying37 I1.out.1 I1.out.2.1 (by rw [I1.out.2.2.1]; decide) (by rw [I1.out.2.2.1]; decide) (by rw [I1.out.2.2.1,Array.toList_map]; exact b1_u64 _) ?_
            have hy:Ext wd (wd.alloc (.cells #[.int .u64 ev.root] 53)):=(Ext.refl _).alloc _
            have hnw:=heap_alloc_new wd (.cells #[.int .u64 ev.root] 53)
            obtain ⟨wnA,hwa⟩:∃ W,wd.alloc (.cells #[.int .u64 ev.root] 53)=W:=⟨_,rfl⟩
            obtain ⟨bn,hnb⟩:∃ m,wd.heap.size=m:=⟨_,rfl⟩
            rw [hwa] at hnw hy ⊢
            rw [hnb] at hnw ⊢
            clear hwa hnb
            have hq1:(fun W'=>Ext w2 W'∧W'.heap[OB]?=some (.cells #[.slice a1 k c1,.slice a2 k c2,.slice a3 m c3,.slice a4 k c4] 51 (0,0))∧W'.heap[g]?=some (.cells curE 90 (0,0))) wnA:=⟨hq0.1.trans hy,(hy.block OB (heap_lt hq0.2.1)).trans hq0.2.1,(hy.block g (heap_lt hq0.2.2)).trans hq0.2.2⟩
            have hxn:Ext wl wnA:=(hqx).trans hy
            have hO2:=ownR_ext HN1.out hxn
            have hbw:B9≤wnA.heap.size:=Nat.le_trans HBL.out hxn.size
            refine hK.out _ _ hq1 (fun _=>?_)
            try simp only [ps]
            clear hK K
            refine runZ (i:=8) rfl rfl (by kernel_rfl) (fun K hK=>?_)
            refine oper_append_own_at _ _ 37 rfl B9 53 i1 (.int .u64 0) 1 8 Try.underlying37 I1.out.1 I1.out.2.1 I1.out.2.2.1 I1.out.2.2.2 rfl (by decide) ((.slice a1 k c1)) k (kv .u64 (R.take k)) rfl hO2 ⟨bn,0,none⟩ 1 1 [.int .u64 ev.root] rfl rfl ?hnews (fun u hu=>by
                have hu2:=hu
                simp only [List.mem_cons,List.not_mem_nil,or_false] at hu2
                first | (subst hu2; rfl) | (rcases hu2 with rfl | rfl <;> rfl) | (rcases hu2 with rfl | rfl | rfl <;> rfl) | (rcases hu2 with rfl | rfl | rfl | rfl | rfl <;> rfl)) (by unfold maxLen; omega) (by omega) hbw ?hfin
            case hnews=>exact fun j u hu=>World.news_of_block hnw j u (by simpa using hu)
            case hfin =>
            intro v6 wa ho6 hg6 hloc
            have hrw0:wa.heap[OB]?=some (.cells #[.slice a1 k c1,.slice a2 k c2,.slice a3 m c3,.slice a4 k c4] 51 (0,0)):=(hg6.block OB (heap_lt hq1.2.1) (fun e=>by have h1:=(own_lt2 hO2 e.symm).1; have h2:=HOBB.out; omega)).trans hq1.2.1
            have hrw1:wa.heap[g]?=some (.cells curE 90 (0,0)):=(hg6.block g (heap_lt hq1.2.2) (fun e=>by have h1:=(own_lt2 hO2 e.symm).1; have h2:=HGB9.out; omega)).trans hq1.2.2
            have hq6:(fun W'=>Ext w2 W'∧W'.heap[OB]?=some (.cells #[.slice a1 k c1,.slice a2 k c2,.slice a3 m c3,.slice a4 k c4] 51 (0,0))∧W'.heap[g]?=some (.cells curE 90 (0,0))) wa:=⟨ext_grown hq1.1 hO2 HB92.out hg6,hrw0,hrw1⟩
            obtain ⟨a5,c5x,rfl⟩:=own_form2 ho6
            refine hK.out _ _ hq6 (fun _=>?_)
            try simp only [ps]
            clear hK K
            refine takeZ (i:=9) (z:=10) (v:=(.pointer (some ⟨OB,0,none⟩))) rfl rfl (by kernel_rfl) (by kernel_rfl) (by kernel_rfl) (by kernel_rfl) (by kernel_rfl) (by kernel_rfl) (fun _ _ _ h=>h) (Or.inl ⟨rfl,fun _ _=>rfl⟩) hq6 ?_
            simp only [ps]
            refine runZl (z:=10) rfl rfl (by kernel_rfl) (fun K hK=>?_)
            refine wp_st_at rfl 37 _ _ rfl OB 0 _ #[.slice a5 (k+1) c5x] (#[.slice a1 k c1,.slice a2 k c2,.slice a3 m c3,.slice a4 k c4]) (#[.slice a5 (k+1) c5x,.slice a2 k c2,.slice a3 m c3,.slice a4 k c4]) 51 rfl rfl rfl hrw0 (by exact (by decide:0+1≤4)) (by kernel_rfl) rfl rfl (fun wsA hrow hm=>?_)
            have HFR:=app_fr hxn hg6 hm
            have HRWA:=Lib.hid hrow
            have hown6:wsA.ownsRow B9 53 1 (.slice a5 (k+1) c5x) (k+1) (kv .u64 (R.take k) ++ [.int .u64 ev.root]):=own_mut ho6 hm (fun g h1 h2=>by have h3:=(own_lt2 ho6 h1).1; have h4:=HOBB.out; omega)
            have HSZ:wl.heap.size≤wnA.heap.size:=hxn.size
            refine hK.out _ _ ?_
            try simp only [ps]
            clear hK K
            have HFR1:Mut (fun g=>g=OB∨(F 1).v.ownBlock=some g) wl wsA:=by rw [HU1.out]; exact HFR
            have hloc1:Value.ownBlock (.slice a5 (k+1) c5x)=(F 1).v.ownBlock∨Value.ownBlock (.slice a5 (k+1) c5x)=some wnA.heap.size:=by rw [HU1.out]; exact hloc
            have hown7:OS.at (⟨.slice a5 (k+1) c5x,53,1,k+1,kv .u64 (R.take (k+1))⟩:OS) wsA B9:=by
             show wsA.ownsRow B9 53 1 _ (k+1) (kv .u64 (R.take (k+1)))
             rw [HTK1.out]
             exact hown6
            have HFMA:=Lib.hid (HFM.out.set (k:=1) (s:=wnA.heap.size) (G:=fun g=>g=OB) (by omega) HFR1 (fun j hj g h1 e=>by have h2:=(own_lt2 (HFM.out.1 j hj) h1).1; have h3:=HOBB.out; have h4:g=OB:=e; omega) hown7 HSZ hloc1)
            have HMA:=Lib.hid (HML.out.app HFR (fun g h1 h2=>by
             rcases h2 with h2 | h2
             ·exact h2
             ·have h3:=(own_lt2 HN1.out h2).1; have h4:=HB9.out; omega))
            have HCEA:=Lib.hid (HFR.heap (heap_lt HCE.out) (fun h=>by
             rcases h with h | h
             ·exact HOG.out.1 h
             ·have h3:=(own_lt2 HN1.out h).1; have h4:=HGB9.out; omega) |>.trans HCE.out)
            clear HFR HFR1 hloc hloc1 hown6 hown7 HSZ
            clear hrow hm ho6 hg6 hq6 hq1 hq0 hqx hy hnw hO2 hbw hxn hrw0 hrw1
            refine wpAnyH_done (by kernel_rfl) ?_ _
            obtain ⟨F1,hF1⟩:∃ F',upd F 1 (⟨.slice a5 (k+1) c5x,53,1,k+1,kv .u64 (R.take (k+1))⟩:OS)=F':=⟨_,rfl⟩
            have HFDA:=Lib.hid (show FamD F1 (.slice a3 m c3) BY R C RL (k+1) k k from by rw [← hF1]; exact HFD.out.root)
            have HVA:=Lib.hid (show (F1 1).v=.slice a5 (k+1) c5x∧(F1 2).v=.slice a2 k c2∧(F1 3).v=.slice a4 k c4 from by
             rw [← hF1]
             refine ⟨by rw [upd_same],?_,?_⟩
             ·rw [upd_other (by omega)]; exact HU2.out
             ·rw [upd_other (by omega)]; exact HU3.out)
            rw [hF1] at HFMA
            have HN2:=Lib.hid (show wsA.ownsRow B9 54 1 (.slice a2 k c2) k (kv .u32 (C.take k)) from by
             have h:=HFMA.out.1 2 (by omega)
             rw [HFDA.out.h2] at h
             rw [← HVA.out.2.1]
             exact h)
            clear HU2
            have HU2:=Lib.hid HVA.out.2.1
            have HXA:=Lib.hid (HX9.out.mutE HMA.out (fun j h1 h2=>by have h3:j=OB:=h2; have h4:=HOWW.out; omega))
            have HBLA:=Lib.hid (show B9≤wsA.heap.size from by rw [← HB9.out]; exact HMA.out.size)
            clear hF1 HFM HFD HPR HML HXL HEVL HEPL HBL x7 HN1 HU1 HU3
            go_wp2_with fail
            refine beginZ (S:=fun W'=>Ext w2 W'∧W'.heap[OB]?=some (.cells #[.slice a5 (k+1) c5x,.slice a2 k c2,.slice a3 m c3,.slice a4 k c4] 51 (0,0))∧W'.heap[g]?=some (.cells curE 90 (0,0))) 10 (by kernel_rfl) ?_
            intro wd hqx
            have hq0:(fun W'=>Ext w2 W'∧W'.heap[OB]?=some (.cells #[.slice a5 (k+1) c5x,.slice a2 k c2,.slice a3 m c3,.slice a4 k c4] 51 (0,0))∧W'.heap[g]?=some (.cells curE 90 (0,0))) wd:=⟨HXA.out.trans hqx,(hqx.block OB (heap_lt (HRWA.out))).trans (HRWA.out),(hqx.block g (heap_lt (HCEA.out))).trans (HCEA.out)⟩
            refine takeZ (i:=0) (z:=10) (v:=(.pointer (some ⟨OB,1,none⟩))) rfl rfl (by kernel_rfl) (by kernel_rfl) (by kernel_rfl) (by kernel_rfl) (by kernel_rfl) (by kernel_rfl) (fun _ _ _ h=>h) (Or.inl ⟨rfl,fun _ _=>rfl⟩) hq0 ?_
            simp only [ps]
            refine takeZ (i:=1) (z:=10) (v:=_) rfl rfl (by kernel_rfl) (by kernel_rfl) (by kernel_rfl) (by kernel_rfl) (by kernel_rfl) (by kernel_rfl) (fun _ _ _ h=>h) (yieldsIf_cell rfl 38 _ rfl ⟨OB,1,none⟩ rfl (.slice a2 k c2) _ (fun W' hW'=>(show W'.cell? ⟨OB,1,none⟩=_ by rw [cell_row hW'.2.1]; rfl)) Try.underlying38 rfl) hq0 ?_
            simp only [ps]
            refine takeZ (i:=2) (z:=10) (v:=(.slice (some ⟨g,0,none⟩) n cap)) rfl rfl (by kernel_rfl) (by kernel_rfl) (by kernel_rfl) (by kernel_rfl) (by kernel_rfl) (by kernel_rfl) (fun _ _ _ h=>h) (Or.inl ⟨rfl,fun _ _=>rfl⟩) hq0 ?_
            simp only [ps]
            refine takeZ (i:=3) (z:=10) (v:=(.int .i64 (k:Int))) rfl rfl (by kernel_rfl) (by kernel_rfl) (by kernel_rfl) (by kernel_rfl) (by kernel_rfl) (by kernel_rfl) (fun _ _ _ h=>h) (Or.inl ⟨rfl,fun _ _=>rfl⟩) hq0 ?_
            simp only [ps]
            refine takeZ (i:=4) (z:=10) (v:=(.pointer (some ⟨g,k*5,none⟩))) rfl rfl (by kernel_rfl) (by kernel_rfl) (by kernel_rfl) (by kernel_rfl) (by kernel_rfl) (by kernel_rfl) (fun _ _ _ h=>h) (Or.inl ⟨rfl,fun W' _=>by go_simp <;> (intro h; omega)⟩) hq0 ?_
            simp only [ps]
            refine takeZ (i:=5) (z:=10) (v:=(.pointer (some ⟨g,k*5+1,none⟩))) rfl rfl (by kernel_rfl) (by kernel_rfl) (by kernel_rfl) (by kernel_rfl) (by kernel_rfl) (by kernel_rfl) (fun _ _ _ h=>h) (Or.inl ⟨rfl,fun _ _=>rfl⟩) hq0 ?_
            simp only [ps]
            refine takeZ (i:=6) (z:=10) (v:=_) rfl rfl (by kernel_rfl) (by kernel_rfl) (by kernel_rfl) (by kernel_rfl) (by kernel_rfl) (by kernel_rfl) (fun _ _ _ h=>h) (yieldsIf_cell rfl 54 _ rfl ⟨g,k*5+1,none⟩ rfl (.int .u32 ev.cost) _ (fun W' hW'=>(cell_row hW'.2.2 _).trans HCA1.out) Try.underlying54 rfl) hq0 ?_
            simp only [ps]
            refine runZ (i:=7) rfl rfl (by kernel_rfl) (fun K hK=>?_)
            refine wp_buildSlice 38 54 1 _ rfl #[.int .u32 ev.cost] i3 (.int .u32 0) Try.underlying38 I3.out.1 I3.out.2.1 (by rw [I3.out.2.2.1]; decide) (by rw [I3.out.2.2.1]; decide) (by rw [I3.out.2.2.1,Array.toList_map]; exact b1_u32 _) ?_
            have hy:Ext wd (wd.alloc (.cells #[.int .u32 ev.cost] 54)):=(Ext.refl _).alloc _
            have hnw:=heap_alloc_new wd (.cells #[.int .u32 ev.cost] 54)
            obtain ⟨wnB,hwa⟩:∃ W,wd.alloc (.cells #[.int .u32 ev.cost] 54)=W:=⟨_,rfl⟩
            obtain ⟨bn,hnb⟩:∃ m,wd.heap.size=m:=⟨_,rfl⟩
            rw [hwa] at hnw hy ⊢
            rw [hnb] at hnw ⊢
            clear hwa hnb
            have hq1:(fun W'=>Ext w2 W'∧W'.heap[OB]?=some (.cells #[.slice a5 (k+1) c5x,.slice a2 k c2,.slice a3 m c3,.slice a4 k c4] 51 (0,0))∧W'.heap[g]?=some (.cells curE 90 (0,0))) wnB:=⟨hq0.1.trans hy,(hy.block OB (heap_lt hq0.2.1)).trans hq0.2.1,(hy.block g (heap_lt hq0.2.2)).trans hq0.2.2⟩
            have hxn:Ext wsA wnB:=(hqx).trans hy
            have hO2:=ownR_ext HN2.out hxn
            have hbw:B9≤wnB.heap.size:=Nat.le_trans HBLA.out hxn.size
            refine hK.out _ _ hq1 (fun _=>?_)
            try simp only [ps]
            clear hK K
            refine runZ (i:=8) rfl rfl (by kernel_rfl) (fun K hK=>?_)
            refine oper_append_own_at _ _ 38 rfl B9 54 i3 (.int .u32 0) 1 4 Try.underlying38 I3.out.1 I3.out.2.1 I3.out.2.2.1 I3.out.2.2.2 rfl (by decide) ((.slice a2 k c2)) k (kv .u32 (C.take k)) rfl hO2 ⟨bn,0,none⟩ 1 1 [.int .u32 ev.cost] rfl rfl ?hnews (fun u hu=>by
                have hu2:=hu
                simp only [List.mem_cons,List.not_mem_nil,or_false] at hu2
                first | (subst hu2; rfl) | (rcases hu2 with rfl | rfl <;> rfl) | (rcases hu2 with rfl | rfl | rfl <;> rfl) | (rcases hu2 with rfl | rfl | rfl | rfl | rfl <;> rfl)) (by unfold maxLen; omega) (by omega) hbw ?hfin
            case hnews=>exact fun j u hu=>World.news_of_block hnw j u (by simpa using hu)
            case hfin =>
            intro v6 wa ho6 hg6 hloc
            have hrw0:wa.heap[OB]?=some (.cells #[.slice a5 (k+1) c5x,.slice a2 k c2,.slice a3 m c3,.slice a4 k c4] 51 (0,0)):=(hg6.block OB (heap_lt hq1.2.1) (fun e=>by have h1:=(own_lt2 hO2 e.symm).1; have h2:=HOBB.out; omega)).trans hq1.2.1
            have hrw1:wa.heap[g]?=some (.cells curE 90 (0,0)):=(hg6.block g (heap_lt hq1.2.2) (fun e=>by have h1:=(own_lt2 hO2 e.symm).1; have h2:=HGB9.out; omega)).trans hq1.2.2
            have hq6:(fun W'=>Ext w2 W'∧W'.heap[OB]?=some (.cells #[.slice a5 (k+1) c5x,.slice a2 k c2,.slice a3 m c3,.slice a4 k c4] 51 (0,0))∧W'.heap[g]?=some (.cells curE 90 (0,0))) wa:=⟨ext_grown hq1.1 hO2 HB92.out hg6,hrw0,hrw1⟩
            obtain ⟨a6,c6,rfl⟩:=own_form2 ho6
            refine hK.out _ _ hq6 (fun _=>?_)
            try simp only [ps]
            clear hK K
            refine takeZ (i:=9) (z:=10) (v:=(.pointer (some ⟨OB,1,none⟩))) rfl rfl (by kernel_rfl) (by kernel_rfl) (by kernel_rfl) (by kernel_rfl) (by kernel_rfl) (by kernel_rfl) (fun _ _ _ h=>h) (Or.inl ⟨rfl,fun _ _=>rfl⟩) hq6 ?_
            simp only [ps]
            refine runZl (z:=10) rfl rfl (by kernel_rfl) (fun K hK=>?_)
            refine wp_st_at rfl 38 _ _ rfl OB 1 _ #[.slice a6 (k+1) c6] (#[.slice a5 (k+1) c5x,.slice a2 k c2,.slice a3 m c3,.slice a4 k c4]) (#[.slice a5 (k+1) c5x,.slice a6 (k+1) c6,.slice a3 m c3,.slice a4 k c4]) 51 rfl rfl rfl hrw0 (by exact (by decide:1+1≤4)) (by kernel_rfl) rfl rfl (fun wsB hrow hm=>?_)
            have HFR:=app_fr hxn hg6 hm
            have HRWB:=Lib.hid hrow
            have hown6:wsB.ownsRow B9 54 1 (.slice a6 (k+1) c6) (k+1) (kv .u32 (C.take k) ++ [.int .u32 ev.cost]):=own_mut ho6 hm (fun g h1 h2=>by have h3:=(own_lt2 ho6 h1).1; have h4:=HOBB.out; omega)
            have HSZ:wsA.heap.size≤wnB.heap.size:=hxn.size
            refine hK.out _ _ ?_
            try simp only [ps]
            clear hK K
            have HFR1:Mut (fun g=>g=OB∨(F1 2).v.ownBlock=some g) wsA wsB:=by rw [HU2.out]; exact HFR
            have hloc1:Value.ownBlock (.slice a6 (k+1) c6)=(F1 2).v.ownBlock∨Value.ownBlock (.slice a6 (k+1) c6)=some wnB.heap.size:=by rw [HU2.out]; exact hloc
            have hown7:OS.at (⟨.slice a6 (k+1) c6,54,1,k+1,kv .u32 (C.take (k+1))⟩:OS) wsB B9:=by
             show wsB.ownsRow B9 54 1 _ (k+1) (kv .u32 (C.take (k+1)))
             rw [HTK2.out]
             exact hown6
            have HFMB:=Lib.hid (HFMA.out.set (k:=2) (s:=wnB.heap.size) (G:=fun g=>g=OB) (by omega) HFR1 (fun j hj g h1 e=>by have h2:=(own_lt2 (HFMA.out.1 j hj) h1).1; have h3:=HOBB.out; have h4:g=OB:=e; omega) hown7 HSZ hloc1)
            have HMB:=Lib.hid (HMA.out.app HFR (fun g h1 h2=>by
             rcases h2 with h2 | h2
             ·exact h2
             ·have h3:=(own_lt2 HN2.out h2).1; have h4:=HB9.out; omega))
            have HCEB:=Lib.hid (HFR.heap (heap_lt HCEA.out) (fun h=>by
             rcases h with h | h
             ·exact HOG.out.1 h
             ·have h3:=(own_lt2 HN2.out h).1; have h4:=HGB9.out; omega) |>.trans HCEA.out)
            clear HFR HFR1 hloc hloc1 hown6 hown7 HSZ
            clear hrow hm ho6 hg6 hq6 hq1 hq0 hqx hy hnw hO2 hbw hxn hrw0 hrw1
            refine wpAnyH_done (by kernel_rfl) ?_ _
            obtain ⟨F2,hF2⟩:∃ F',upd F1 2 (⟨.slice a6 (k+1) c6,54,1,k+1,kv .u32 (C.take (k+1))⟩:OS)=F':=⟨_,rfl⟩
            have HFDB:=Lib.hid (show FamD F2 (.slice a3 m c3) BY R C RL (k+1) (k+1) k from by rw [← hF2]; exact HFDA.out.cost)
            have HVB:=Lib.hid (show (F2 1).v=.slice a5 (k+1) c5x∧(F2 2).v=.slice a6 (k+1) c6∧(F2 3).v=.slice a4 k c4 from by
             rw [← hF2]
             refine ⟨?_,by rw [upd_same],?_⟩
             ·rw [upd_other (by omega)]; exact HVA.out.1
             ·rw [upd_other (by omega)]; exact HVA.out.2.2)
            rw [hF2] at HFMB
            have HXB:=Lib.hid (HX9.out.mutE HMB.out (fun j h1 h2=>by have h3:j=OB:=h2; have h4:=HOWW.out; omega))
            obtain ⟨np,hnp⟩:∃ x,npA N k=x:=⟨_,rfl⟩
            have hrll:=HRLL.out k
            rw [hnp] at hrll
            have HNPK:=Lib.hid hnp
            have HRLN:=Lib.hid hrll
            obtain ⟨pa,pcap,hpa,-⟩:=HNP.out k hlt
            rw [hnp] at hpa
            have HPA:=Lib.hid hpa
            have hnp32:np≤60:=by
             have hi2:k < N.length:=by rw [HNN.out]; exact hlt
             have h:=HOK.out.p1000 (N.getD k default) (by rw [List.getD_eq_getElem?_getD,List.getElem?_eq_getElem hi2]; exact List.getElem_mem hi2)
             rw [← hnp]
             exact h
            obtain ⟨e1,he1⟩:∃ e,(EP.getD k (0,0)).1=e:=⟨_,rfl⟩
            obtain ⟨e2,he2⟩:∃ e,(EP.getD k (0,0)).2=e:=⟨_,rfl⟩
            have HEE:=Lib.hid (show EP.getD k (0,0)=(e1,e2) from by rw [← he1,← he2])
            have HFM3:=Lib.hid ((HFMB.out.nil 3 1))
            have HFD3:=Lib.hid (HFDB.out.fresh (o:=⟨.slice none 0 0,3,1,0,[]⟩))
            clear hF2 HFMA HFDA HVA HN2 HU2 HMA HXA HBLA HRWA hnp hrll hpa he1 he2
            go_wp2_with fail
            go_loopw [22,21] (fun s u wr=>∃ (q:Nat) (F:Nat→OS) (wo:World),wo=wr∧s=.int .i64 q∧q≤np∧Fam wo B9 (4+k+1) F∧FamD F (.slice a3 m c3) BY R C RL (k+1) (k+1) k∧F (4+k)=⟨u,3,1,q,iv ((RL k).take q)⟩∧(F 1).v=.slice a5 (k+1) c5x∧(F 2).v=.slice a6 (k+1) c6∧(F 3).v=.slice a4 k c4∧BoxAt wo OB #[.slice a5 (k+1) c5x,.slice a6 (k+1) c6,.slice a3 m c3,.slice a4 k c4] 51∧Mut (fun g=>g=OB) w9 wo) (fun s _ _=>np - (intOf s).toNat)
            case atStart=>exact ⟨0,_,_,rfl,rfl,by omega,HFM3.out,HFD3.out,by rw [upd_same]; rfl,by rw [upd_other (by omega)]; exact HVB.out.1,by rw [upd_other (by omega)]; exact HVB.out.2.1,by rw [upd_other (by omega)]; exact HVB.out.2.2,HRWB.out,HMB.out⟩
            case round =>
             as_aux_lemma =>
              clear HFM3 HFD3 HVB HRWB HMB HXB HFMB HFDB
              obtain ⟨q,F2,wo,rfl,rfl,hq,hfm,hfd,hfu,hv1,hv2,hv3,hp,hml⟩:=hrel
              rename World=>wq
              have hnu:=hfm.1 (4+k) (by omega)
              rw [hfu] at hnu
              have hnu:wq.ownsRow B9 3 1 _ q (iv ((RL k).take q)):=hnu
              obtain ⟨a8,c8,rfl⟩:=own_form2 hnu
              have HNU:=Lib.hid hnu
              have HUU:=Lib.hid (show (F2 (4+k)).v=.slice a8 q c8 from by rw [hfu])
              have HFU:=Lib.hid hfu
              have HV123:=Lib.hid (And.intro hv1 (And.intro hv2 hv3))
              have HFQ:=Lib.hid hfm
              have HFDQ:=Lib.hid hfd
              have HPQ:=Lib.hid hp
              have HMQ:=Lib.hid hml
              have HXQ:=Lib.hid (HX9.out.mutE hml (fun j h1 h2=>by have h3:j=OB:=h2; have h4:=HOWW.out; omega))
              have HEPQ:=Lib.hid (HEP9.out.mut hml (fun h=>HOG.out.2 h))
              have HBQ:=Lib.hid (show B9≤wq.heap.size from by rw [← HB9.out]; exact hml.size)
              have x7:wq.cell? ⟨X,7,none⟩=some (.slice (some ⟨nb,no,none⟩) n ncap):=(HX.out.ext HXQ.out).cell 7 rfl
              have cpa:=HPA.out wq (HE.out.trans HXQ.out)
              have hupq:IntKind.i64.wrap ((q:Int)+1)=((q+1:Nat):Int):=by rw [IntKind.wrap_i64]; omega
              clear hfm hfd hfu hp hml hv1 hv2 hv3 hnu
              by_cases hlq:q < np
              ·have dlq:decide ((q:Int) < (np:Int))=true:=by simp; omega
               obtain ⟨rr,hrr⟩:∃ x,roleD (segF SR) BY (e1,e2) ((k:Int),(q:Int))=x:=⟨_,rfl⟩
               have HRR:=Lib.hid hrr
               have HTQ:=Lib.hid (show iv ((RL k).take (q+1))=iv ((RL k).take q) ++ [.int .i64 rr] from by
                rw [take_snoc (RL k) 0 (by rw [HRLN.out]; exact hlq),HRLA.out k q (by rw [HNPK.out]; exact hlq),HEE.out,hrr]
                simp [iv])
               have HPYQ:=Lib.hid (show ∀ W',Mut (fun g=>Value.ownBlock (.slice a8 q c8)=some g) wq W'→PlAt W' (.slice a3 m c3) BY from fun W' hm=>by
                have h0:=HFQ.out.1 0 (by omega)
                have hne:=HFQ.out.2 0 (4+k) (by omega) (by omega) (by omega)
                rw [HFDQ.out.h0] at h0 hne
                rw [HUU.out] at hne
                exact PlAt.ownF (own_mut h0 hm (fun g h1 h2=>hne g h1 h2)) (by rw [HBYL.out]; omega))
               clear hrr
               go_wp2_with fail
               have HEXT:=Lib.hid (show ∀ W',Mut (fun g=>Value.ownBlock (.slice a8 q c8)=some g) wq W'→Ext w2 W' from fun W' h=>HXQ.out.mutE h (fun g h1 h2=>by have h3:=(own_lt2 HNU.out h2).1; have h4:=HB92.out; omega))
               refine beginL (S:=fun W'=>Mut (fun g=>Value.ownBlock (.slice a8 q c8)=some g) wq W') (by kernel_rfl) ?_
               intro wd hqx
               have hq0:Mut (fun g=>Value.ownBlock (.slice a8 q c8)=some g) wq wd:=hqx.mut _
               have hqe:Ext wq wd:=hqx
               refine tLp 0 ((.slice a8 q c8)) rfl hq0 ?_
               simp only [ps]
               refine tLp 1 ((.pointer (some ⟨OB,2,none⟩))) rfl hq0 ?_
               simp only [ps]
               refine tL 2 (_) rfl (yieldsIf_cell rfl 49 _ rfl ⟨OB,2,none⟩ rfl (.slice a3 m c3) _ (fun W' hW'=>(HPQ.out.mut hW' (fun h=>by have h3:=(own_lt2 HNU.out h).1; have h4:=HOBB.out; omega)).cell 2 rfl) Try.underlying49 rfl) hq0 ?_
               simp only [ps]
               refine tLp 3 ((.slice (some ⟨GV,0,none⟩) n n)) rfl hq0 ?_
               simp only [ps]
               refine tLp 4 ((.int .i64 (k:Int))) rfl hq0 ?_
               simp only [ps]
               refine tL 5 ((.pointer (some ⟨GV,k*2,none⟩))) rfl (Or.inl ⟨rfl,fun W' _=>by go_simp <;> (intro h; omega)⟩) hq0 ?_
               simp only [ps]
               refine tL 6 (_) rfl (yieldsIf_load_mid rfl 59 _ rfl GV (k*2) rfl ([.int .i64 e1,.int .i64 e2]) _ (fun W' hW'=>(show W'.rangeAt GV (k*2) [.int .i64 e1,.int .i64 e2] from by have h:=(HEPQ.out.mut hW' (fun h=>by have h3:=(own_lt2 HNU.out h).1; have h4:=HGV9.out; omega)).range plL_len (0,0) hlt; rw [HEE.out] at h; exact h)) Try.underlying59 rfl size_fp) hq0 ?_
               simp only [ps]
               refine tL 7 (_) rfl (yieldsIf_rowS rfl 32 _ rfl X rfl #[.int .i64 t0,.int .i64 t1,.int .i64 t2,.int .i64 t3,.int .i64 hold,.int .i64 room,.int .i64 age,.slice (some ⟨nb,no,none⟩) n ncap,.slice (some ⟨sb,so,none⟩) m scap] _ _ (fun W' hW'=>HX.out.ext (HEXT.out W' hW')) Try.underlying32 rfl size_rn3) hq0 ?_
               simp only [ps]
               refine tLp 8 ((.slice ua ul ucap)) rfl hq0 ?_
               simp only [ps]
               refine tLp 9 ((.int .i64 (k:Int))) rfl hq0 ?_
               simp only [ps]
               refine tLp 10 ((.int .i64 (q:Int))) rfl hq0 ?_
               simp only [ps]
               refine tL 11 ((.agg #[.int .i64 (k:Int),.int .i64 (q:Int)])) rfl (yieldsIf_build rfl 59 _ rfl [(0,.int .i64 (k:Int)),(1,.int .i64 (q:Int))] rfl #[.int .i64 (k:Int),.int .i64 (q:Int)] (bl_rp _ _)) hq0 ?_
               simp only [ps]
               refine runL (i:=12) rfl rfl (by kernel_rfl) (fun K hK=>?_)
               go_simp
               refine (frole_at t0 t1 t2 t3 hold room age e1 e2 (k:Int) (q:Int) rr (.slice (some ⟨nb,no,none⟩) n ncap) (.slice (some ⟨sb,so,none⟩) m scap) (.slice ua ul ucap) (.slice a3 m c3) N S U BY wd (by rw [HSR.out]; exact HRR.out) (HS.out.ext (HE.out.trans (HEXT.out _ (by assumption)))) ⟨by rw [HM0.out]; omega,by rw [HM0.out]; omega⟩ HOK.out.s60 (HU.out.ext (HE.out.trans (HEXT.out _ (by assumption)))) (by rw [HUL.out]; omega) (HPYQ.out wd (by assumption)) (by rw [HBYL.out,HM0.out]) HOK.out.uniq rfl).mono ?_
               rintro e wc1 ⟨rfl,hx⟩
               have hq1:=hq0.trans (hx.mut _)
               refine hK.out _ _ hq1 (fun hHeld=>?_)
               try simp only [ps]
               clear hK K hHeld
               have hqc:Ext wq wc1:=hqx.trans hx
               refine runL (i:=13) rfl rfl (by kernel_rfl) (fun K hK=>?_)
               refine wp_buildSlice 56 3 1 _ rfl #[.int .i64 rr] i7 (.int .i64 0) Try.underlying56 I7.out.1 I7.out.2.1 (by rw [I7.out.2.2.1]; decide) (by rw [I7.out.2.2.1]; decide) (by rw [I7.out.2.2.1,Array.toList_map]; exact b1_int _) ?_
               have hy:Ext wc1 (wc1.alloc (.cells #[.int .i64 rr] 3)):=(Ext.refl _).alloc _
               have hnw:=heap_alloc_new wc1 (.cells #[.int .i64 rr] 3)
               obtain ⟨wn,hwa⟩:∃ W,wc1.alloc (.cells #[.int .i64 rr] 3)=W:=⟨_,rfl⟩
               obtain ⟨bn,hnb⟩:∃ m,wc1.heap.size=m:=⟨_,rfl⟩
               rw [hwa] at hnw hy ⊢
               rw [hnb] at hnw ⊢
               clear hwa hnb
               have hxn:Ext wq wn:=hqc.trans hy
               have hO2:=ownR_ext HNU.out hxn
               have hbw:B9≤wn.heap.size:=Nat.le_trans HBQ.out hxn.size
               refine hK.out _ _ (hxn.mut _) (fun _=>?_)
               try simp only [ps]
               clear hK K
               refine runL (i:=14) rfl rfl (by kernel_rfl) (fun K hK=>?_)
               refine oper_append_own_at _ _ 56 rfl B9 3 i7 (.int .i64 0) 1 8 Try.underlying56 I7.out.1 I7.out.2.1 I7.out.2.2.1 I7.out.2.2.2 rfl (by decide) (.slice a8 q c8) q (iv ((RL k).take q)) rfl hO2 ⟨bn,0,none⟩ 1 1 [.int .i64 rr] rfl rfl ?hnews (fun u hu=>by
                   have hu2:=hu
                   simp only [List.mem_cons,List.not_mem_nil,or_false] at hu2
                   subst hu2
                   rfl) (by unfold maxLen; omega) (by omega) hbw ?hfin
               case hnews=>exact fun j u hu=>World.news_of_block hnw j u (by simpa using hu)
               case hfin =>
               intro v6 wa ho6 hg6 hloc
               have hfr:Mut (fun g=>Value.ownBlock (.slice a8 q c8)=some g) wq wa:=(hxn.mut _).trans (grown_mut hg6)
               obtain ⟨a9,c9,rfl⟩:=own_form2 ho6
               have HFR2:Mut (fun g=>False∨(F2 (4+k)).v.ownBlock=some g) wq wa:=by rw [HUU.out]; exact hfr.mono (fun g _ h=>.inr h)
               have hloc2:Value.ownBlock (.slice a9 (q+1) c9)=(F2 (4+k)).v.ownBlock∨Value.ownBlock (.slice a9 (q+1) c9)=some wn.heap.size:=by rw [HUU.out]; exact hloc
               have hown7:OS.at (⟨.slice a9 (q+1) c9,3,1,q+1,iv ((RL k).take (q+1))⟩:OS) wa B9:=by
                show wa.ownsRow B9 3 1 _ (q+1) (iv ((RL k).take (q+1)))
                rw [HTQ.out]
                exact ho6
               have HFMN:=Lib.hid (HFQ.out.set (k:=4+k) (G:=fun _=>False) (by omega) HFR2 (fun _ _ _ _ h=>h) hown7 hxn.size hloc2)
               have HMN:=Lib.hid (HMQ.out.app hfr (fun g h1 h2=>by have h3:=(own_lt2 HNU.out h2).1; have h4:=HB9.out; omega))
               have HPN:=Lib.hid (HPQ.out.mut hfr (fun h=>by have h3:=(own_lt2 HNU.out h).1; have h4:=HOBB.out; omega))
               refine hK.out _ _ hfr (fun _=>?_)
               try simp only [ps]
               clear hK K
               refine tLp 15 ((.slice a9 (q+1) c9)) rfl hfr ?_
               simp only [ps]
               clear hfr hloc ho6 hg6 hbw hO2 hxn hy hnw hq0 hqx hqc hqe HFR2 hloc2 hown7 hx hq1
               refine wpAnyH_done (by kernel_rfl) ?_ _
               go_wp2_with fail
               go_roundw
               case rel=>exact ⟨q+1,_,_,rfl,by go_num,by omega,HFMN.out,HFDQ.out.fresh,by rw [upd_same],by rw [upd_other (by omega)]; exact HV123.out.1,by rw [upd_other (by omega)]; exact HV123.out.2.1,by rw [upd_other (by omega)]; exact HV123.out.2.2,HPN.out,HMN.out⟩
               case measure=>simp [intOf] <;> omega
              ·have dlq:decide ((q:Int) < (np:Int))=false:=by simp; omega
               obtain rfl:np=q:=by omega
               have HN3:=Lib.hid (show wq.ownsRow B9 56 1 (.slice a4 k c4) k ((List.range k).map (fun j=>(F2 (4+j)).v)) from by
                have h:=HFQ.out.1 3 (by omega)
                rw [HFDQ.out.h3] at h
                rw [← HV123.out.2.2]
                exact h)
               have HN9:=Lib.hid (ownR_ext HN3.out ((Ext.refl wq).alloc (.cells #[.slice a8 np c8] 56)))
               have HNW:=Lib.hid (fun (j:Nat) (u:Value) (hu:[Value.slice a8 np c8][j]?=some u)=>World.news_of_block (heap_alloc_new wq (.cells #[.slice a8 np c8] 56)) j u (by simpa using hu))
               have HP9:=Lib.hid (show F2 (4+k)=⟨(F2 (4+k)).v,3,1,(RL k).length,iv (RL k)⟩ from by
                have e:(RL k).take np=RL k:=List.take_of_length_le (by rw [HRLN.out]; exact Nat.le_refl _)
                have h:=HFU.out
                rw [e] at h
                rw [HRLN.out,HUU.out]
                exact h)
               have hBZ:B9≤(wq.alloc (.cells #[.slice a8 np c8] 56)).heap.size:=by have:=HBQ.out; simp; omega
               have o3:wq.cell? ⟨OB,3,none⟩=some (.slice a4 k c4):=HPQ.out.cell 3 rfl
               go_wp2_with (first
                | fail
                | (at_builtin; refine wpList_append_own_at _ rfl _ _ 40 rfl B9 56 i4 (.slice none 0 0) 1 24 Try.underlying40 I4.out.1 I4.out.2.1 I4.out.2.2.1 I4.out.2.2.2 rfl (by decide) _ k ((List.range k).map (fun j=>(F2 (4+j)).v)) rfl HN9.out ⟨wq.heap.size,0,none⟩ 1 1 [.slice a8 np c8] rfl rfl HNW.out (by
                     intro u hu
                     simp only [List.mem_cons,List.not_mem_nil,or_false] at hu
                     subst hu
                     rfl) (by unfold maxLen; omega) (by omega) hBZ ?_
                   intro v7 wa ho7 hg7 _ hb7
                   obtain ⟨a7,c7,rfl⟩:=own_form2 ho7
                   have hxw:wa.heap[OB]?=some (.cells #[.slice a5 (k+1) c5x,.slice a6 (k+1) c6,.slice a3 m c3,.slice a4 k c4] 51 (0,0)):=(hg7.block OB (Nat.lt_of_lt_of_le (heap_lt HPQ.out) (by simp)) (fun e=>by have h1:=(own_lt2 HN3.out e.symm).1; have h2:=HOBB.out; omega)).trans ((heap_alloc_old _ _ (heap_lt HPQ.out)).trans HPQ.out))
                | ((with_reducible refine at_store 40 ?_); refine st_at rfl rfl 40 _ _ rfl OB 3 _ #[.slice a7 (k+1) c7] #[.slice a5 (k+1) c5x,.slice a6 (k+1) c6,.slice a3 m c3,.slice a4 k c4] #[.slice a5 (k+1) c5x,.slice a6 (k+1) c6,.slice a3 m c3,.slice a7 (k+1) c7] 51 rfl rfl rfl hxw (by exact (by decide:3+1≤4)) (by kernel_rfl) rfl rfl ?_
                   intro wz hrow hm
                   have HFR:=app_fr ((Ext.refl wq).alloc (.cells #[.slice a8 np c8] 56)) hg7 hm
                   have hown6:=own_mut ho7 hm (fun g h1 h2=>by have h3:=(own_lt2 ho7 h1).1; have h4:=HOBB.out; have h5:g=OB:=h2; omega)
                   have HFR2:Mut (fun g=>g=OB∨(F2 3).v.ownBlock=some g) wq wz:=by rw [HV123.out.2.2]; exact HFR
                   have hloc2:Value.ownBlock (.slice a7 (k+1) c7)=(F2 3).v.ownBlock∨Value.ownBlock (.slice a7 (k+1) c7)=some (wq.alloc (.cells #[.slice a8 np c8] 56)).heap.size:=by rw [HV123.out.2.2]; exact hb7
                   have hown7:OS.at (⟨.slice a7 (k+1) c7,56,1,k+1,(List.range k).map (fun j=>(F2 (4+j)).v) ++ [(F2 (4+k)).v]⟩:OS) wz B9:=by
                    show wz.ownsRow B9 56 1 _ (k+1) ((List.range k).map (fun j=>(F2 (4+j)).v) ++ [(F2 (4+k)).v])
                    rw [HUU.out]
                    exact hown6
                   have HFMN:=Lib.hid (HFQ.out.set (k:=3) (s:=(wq.alloc (.cells #[.slice a8 np c8] 56)).heap.size) (G:=fun g=>g=OB) (by omega) HFR2 (fun j hj g h1 e=>by have h2:=(own_lt2 (HFQ.out.1 j hj) h1).1; have h3:=HOBB.out; have h4:g=OB:=e; omega) hown7 (by simp) hloc2)
                   have HFDN:=Lib.hid (HFDQ.out.role (v:=.slice a7 (k+1) c7) HP9.out)
                   have HOBN:=Lib.hid (show BoxAt wz OB #[(upd F2 3 (⟨.slice a7 (k+1) c7,56,1,k+1,(List.range k).map (fun j=>(F2 (4+j)).v) ++ [(F2 (4+k)).v]⟩:OS) 1).v,(upd F2 3 (⟨.slice a7 (k+1) c7,56,1,k+1,(List.range k).map (fun j=>(F2 (4+j)).v) ++ [(F2 (4+k)).v]⟩:OS) 2).v,.slice a3 m c3,(upd F2 3 (⟨.slice a7 (k+1) c7,56,1,k+1,(List.range k).map (fun j=>(F2 (4+j)).v) ++ [(F2 (4+k)).v]⟩:OS) 3).v] 51 from by
                    rw [upd_same,upd_other (by omega),upd_other (by omega),HV123.out.1,HV123.out.2.1]
                    exact hrow)
                   have HMN:=Lib.hid (HMQ.out.app HFR (fun g h1 h=>by
                    rcases h with h | h
                    ·exact h
                    ·have h7:=(own_lt2 HN3.out h).1
                     have h8:=HB9.out
                     omega))
                   clear hrow hm ho7 hg7 hb7 hxw hown6 hown7 hloc2 HFR HFR2))
               go_roundw
               case rel=>exact ⟨k+1,_,_,rfl,by go_num,hlt,HFMN.out,HFDN.out,HOBN.out,HMN.out⟩
               case measure=>simp [intOf] <;> omega
           ·have dlt:decide ((k:Int) < (n:Int))=false:=by simp; omega
            obtain rfl:n=k:=by omega
            have HRBL:=Lib.hid (HRB.out.ext HXL.out)
            have HRB2:=Lib.hid (show RB < w2.heap.size from heap_lt HRB.out)
            go_wp2_with (first
             | fail
             | ((with_reducible refine at_load 51 ?_); refine wpList_load_row rfl 51 _ rfl OB rfl 51 #[.slice a1 n c1,.slice a2 n c2,.slice a3 m c3,.slice a4 n c4] (0,0) _ HPR.out Try.underlying51 rfl size_dp ?_)
             | ((with_reducible refine at_store 51 ?_); refine st_at rfl rfl 51 _ _ rfl RB 0 _ #[.slice a1 n c1,.slice a2 n c2,.slice a3 m c3,.slice a4 n c4] PNZ #[.slice a1 n c1,.slice a2 n c2,.slice a3 m c3,.slice a4 n c4] 51 rfl rfl rfl HRBL.out (by exact (by decide:0+4≤4)) (by kernel_rfl) rfl rfl ?_
                intro wz hqz hmz
                have HRZ:=Lib.hid hqz
                have HMZ:=Lib.hid hmz
                clear hqz hmz))
            refine bodyPost_ret (results_cell_row rfl _ _ RB _ _ (0,0) _ rfl HRZ.out Try.underlying51 rfl size_dp) rfl ?_
            have HXZ:=(HE.out.trans HXL.out).mutE HMZ.out (fun g h1 h2=>by have h3:g=RB:=h2; have h4:=HRBW.out; omega)
            have hfz:Fam wz B9 (4+n) F:=HFM.out.mut HMZ.out (fun j hj g h1 h2=>by have h3:=(own_lt2 (HFM.out.1 j hj) h1).1; have h4:g=RB:=h2; have h5:=HRB2.out; have h6:=HB92.out; omega)
            refine ⟨_,rfl,?_,HXZ⟩
            have hd:=HFD.out
            have g0:=hfz.1 0 (by omega)
            rw [hd.h0] at g0
            have g1:=hfz.1 1 (by omega)
            rw [hd.h1] at g1
            have g1:wz.ownsRow B9 53 1 (F 1).v n (kv .u64 (R.take n)):=g1
            have g2:=hfz.1 2 (by omega)
            rw [hd.h2] at g2
            have g2:wz.ownsRow B9 54 1 (F 2).v n (kv .u32 (C.take n)):=g2
            have g3:=hfz.1 3 (by omega)
            rw [hd.h3] at g3
            have g3:wz.ownsRow B9 56 1 (F 3).v n ((List.range n).map (fun j=>(F (4+j)).v)):=g3
            rw [HU1.out,List.take_of_length_le (by rw [HRN2.out.1]; exact Nat.le_refl _)] at g1
            rw [HU2.out,List.take_of_length_le (by rw [HRN2.out.2]; exact Nat.le_refl _)] at g2
            rw [HU3.out] at g3
            show PlanAt wz _ ⟨(endP N SR).1.map Vc.root,(endP N SR).1.map Vc.cost,SR.map (byD N (endP N SR).1),(List.range N.length).map (fun i=>(List.range (npA N i)).map (fun k:Nat=>roleD (segF SR) (SR.map (byD N (endP N SR).1)) ((endP N SR).2.getD i (0,0)) ((i:Int),(k:Int))))⟩
            rw [HEV1.out,HEP1.out,HBY.out,HR.out,HC.out,HRL.out,HNN.out]
            refine ⟨_,_,_,_,rfl,IntAt.own g1 HRN2.out.1 (by omega),IntAt.own g2 HRN2.out.2 (by omega),PlAt.ownF g0 (by rw [HBYL.out]; omega),?_⟩
            show RolesAt wz _ ((List.range n).map RL)
            refine ⟨fun i=>(F (4+i)).v,?_,fun i hi=>?_⟩
            ·rw [List.length_map,List.length_range]
             exact RowAt.own g3 (by omega) (fun i hi=>⟨(F (4+i)).v,by rw [List.getElem?_map,List.getElem?_range hi]; rfl,rfl⟩)
            ·have hi2:i < n:=by simpa using hi
             have g4:=hfz.1 (4+i) (by omega)
             rw [hd.h4 i hi2] at g4
             have g4:wz.ownsRow B9 3 1 (F (4+i)).v (RL i).length (iv (RL i)):=g4
             have e5:((List.range n).map RL).getD i []=RL i:=by simp [List.getD_eq_getElem?_getD,hi2]
             rw [e5]
             exact IntsR.of_own g4
theorem plan_open3 {w:World} {v:Value} {p:Pn} {n m:Nat} (h:PlanAt w v p) (hr:p.root.length=n) (hc:p.cost.length=n) (hb:p.by_.length=m) (hro:p.roles.length=n) (h1:1≤n) (h2:1≤m) :
    ∃ aa ao ca ba bo cb ya yo cc da dof cd,v=.agg #[.slice (some ⟨aa,ao,none⟩) n ca,.slice (some ⟨ba,bo,none⟩) n cb,.slice (some ⟨ya,yo,none⟩) m cc,.slice (some ⟨da,dof,none⟩) n cd] ∧
     (∀ W',Ext w W'→∀ i,i < n→W'.cell? ⟨aa,ao+i,none⟩=some (.int .u64 (at0 p.root i))∧W'.cell? ⟨ba,bo+i,none⟩=some (.int .u32 (at0 p.cost i))) ∧
     (∀ W',Ext w W'→∀ s,s < m→W'.cell? ⟨ya,yo+s*2,none⟩=some (.int .i64 (p.by_.getD s (0,0)).1)∧W'.cell? ⟨ya,yo+s*2+1,none⟩=some (.int .i64 (p.by_.getD s (0,0)).2)) ∧
     ∀ i,i < n→∃ rv,(∀ W',Ext w W'→W'.cell? ⟨da,dof+i,none⟩=some rv)∧∀ W',Ext w W'→IntsA W' rv (p.roles.getD i []):=by
 obtain ⟨pa,pb,pc,pd,rfl,⟨aa,acap,rfl,-,haf⟩,⟨ab,bcap,rfl,-,hbf⟩,⟨ac,ccap,rfl,-,hcf⟩,⟨rv,⟨da,dcap,rfl,-,hdf⟩,hrv⟩⟩:=h
 rw [hr] at haf ⊢
 rw [hc] at hbf ⊢
 rw [hb] at hcf ⊢
 rw [hro] at hdf hrv ⊢
 obtain ⟨a1,o1,rfl,l1,-,-,f1⟩:=haf (by omega)
 obtain ⟨a2,o2,rfl,l2,-,-,f2⟩:=hbf (by omega)
 obtain ⟨a3,o3,rfl,l3,-,-,f3⟩:=hcf (by omega)
 obtain ⟨a4,o4,rfl,l4,-,-,f4⟩:=hdf (by omega)
 refine ⟨a1,o1,acap,a2,o2,bcap,a3,o3,ccap,a4,o4,dcap,rfl,fun W' hx i hi=>⟨?_,?_⟩,fun W' hx s hs=>⟨?_,?_⟩,fun i hi=>⟨rv i,fun W' hx=>?_,fun W' hx=>(hrv i hi).a.ext hx⟩⟩
 ·have:=f1 i hi 0 _ rfl
  rw [Nat.add_zero,Nat.mul_one] at this
  exact (hx.cell l1).trans this
 ·have:=f2 i hi 0 _ rfl
  rw [Nat.add_zero,Nat.mul_one] at this
  exact (hx.cell l2).trans this
 ·have:=f3 s hs 0 _ rfl
  rw [Nat.add_zero] at this
  exact (hx.cell l3).trans this
 ·exact (hx.cell l3).trans (f3 s hs 1 _ rfl)
 ·have:=f4 i hi 0 _ rfl
  rw [Nat.add_zero,Nat.mul_one] at this
  exact (hx.cell l4).trans this
theorem bools_cut {w:World} {ub uo c j:Nat} {U:List Bool} (h:BoolsAt w (.slice (some ⟨ub,uo,none⟩) U.length c) U) (hj:j≤U.length) (h1:1≤U.length):BoolsAt w (.slice (some ⟨ub,uo,none⟩) j c) (U.take j):=by
 obtain ⟨a,cap,e,hm,hf⟩:=h
 obtain ⟨b,off,ha,hb,h2,h3,h4⟩:=hf (by omega)
 subst ha
 simp only [Value.slice.injEq,Option.some.injEq,Addr.mk.injEq] at e
 obtain ⟨⟨rfl,rfl,-⟩,-,rfl⟩:=e
 have hl:(U.take j).length=j:=by rw [List.length_take]; omega
 unfold BoolsAt
 rw [hl]
 refine ⟨_,_,rfl,by omega,fun h0=>⟨ub,uo,rfl,hb,by omega,h3,fun i hi=>?_⟩⟩
 have h5:=h4 i (by omega)
 have e2:(U.take j).getD i false=U.getD i false:=by
  rw [List.getD_eq_getElem?_getD,List.getD_eq_getElem?_getD,List.getElem?_take,if_pos hi]
 show w.rangeAt ub (uo+i*1) [.bool ((U.take j).getD i false)]
 rw [e2]
 exact h5
set_option maxRecDepth 100000 in
set_option maxHeartbeats 16000000 in
theorem law_PlanTells {w:World} (v:Value) (t:Tn) (ht:TinyA w v t) (hr:TnR t) (u:Int) (hu:0≤u∧u < 256) (kk:Int) (hkk:0≤kk∧kk < 256) :
    Calls Try.prog 3 #[v,.int .u8 u,.int .u8 kk] w fun e w'=>e=.returned (.bool true)∧Ext w w':=by
 obtain ⟨a,b,hv,hab⟩:=id ht
 subst hv
 have ha1:a.oneCell'=true:=by obtain ⟨_,_,e,_⟩:=hab.1; rw [e]; rfl
 have hb1:b.oneCell'=true:=by obtain ⟨_,⟨_,_,e,_⟩,_⟩:=hab.2.1; rw [e]; rfl
 have HO0:=Lib.hid (show (#[.int .u8 t.rst,a,b,.int .u8 t.edge]:Array Value).toList.all (·.oneCell')=true from by
  show (true && (a.oneCell' && (b.oneCell' && true)))=true
  rw [ha1,hb1]
  rfl)
 have HT:=Lib.hid ht
 have HKK:=Lib.hid hkk
 have HR:=Lib.hid hr
 have HU:=Lib.hid hu
 clear ht hr hu hab ha1 hb1
 go_enter Try.func3,Try.ntmps3
 go_wp2_with (first
  | fail
  | ((with_reducible refine at_box 25 ?_); refine bx_row rfl 25 _ rfl #[.int .u8 t.rst,a,b,.int .u8 t.edge] rfl ?_
     intro X wa hX hsz hx1
     have HXa:=Lib.hid (show BoxAt wa X #[.int .u8 t.rst,a,b,.int .u8 t.edge] 25 from hX)
     have HEa:=Lib.hid hx1
     clear hX hsz hx1))
 refine (awake_any wa).mono ?_
 rintro e w1 ⟨rfl,hx1⟩
 have HX1:=Lib.hid (HXa.out.ext hx1)
 have HE1:=Lib.hid (HEa.out.trans hx1)
 clear hx1
 go_wp2_with (first
  | fail
  | ((with_reducible refine at_load 25 ?_); refine wpList_load_row rfl 25 _ rfl X rfl 25 #[.int .u8 t.rst,a,b,.int .u8 t.edge] (0,0) _ HX1.out Try.underlying25 rfl size_ti ?_))
 have htin:=HT.out
 refine (tiny_any (.agg #[.int .u8 t.rst,a,b,.int .u8 t.edge]) t w1 (by obtain ⟨a',b',e1,h1,h2,h3⟩:=htin; exact ⟨a',b',e1,h1.ext HE1.out,h2.ext HE1.out,h3⟩)).mono ?_
 clear htin
 rintro e w2 ⟨nv,sv,rfl,h1,h2,h3,hx2⟩
 obtain ⟨ok,hok⟩:∃ ok,okT t=ok:=⟨_,rfl⟩
 rw [hok] at h3 ⊢
 have HOK:=Lib.hid hok
 have H3:=Lib.hid h3
 have HX2:=Lib.hid (HX1.out.ext hx2)
 have HE2:=Lib.hid (HE1.out.trans hx2)
 have HON:=Lib.hid (show (#[.int .i64 0,.int .i64 20,.int .i64 2,.int .i64 15,.int .i64 6,.int .i64 20,.int .i64 300,nv,sv]:Array Value).toList.all (·.oneCell')=true from by
  show (true && (true && (true && (true && (true && (true && (true && (nv.oneCell' && (sv.oneCell' && true)))))))))=true
  rw [h1,h2]
  rfl)
 clear h1 h2 h3 hx2 hok
 cases ok with
 | false =>
  go_wp2_with (first
   | fail
   | ((with_reducible refine at_alloc 32 ?_); refine al_zero rfl 32 rfl NZ zero_rn ?_
      intro V w3 hq3 hsz3 hx3)
   | ((with_reducible refine at_store 32 ?_); refine st_at rfl rfl 32 _ _ rfl V 0 _ #[.int .i64 0,.int .i64 20,.int .i64 2,.int .i64 15,.int .i64 6,.int .i64 20,.int .i64 300,nv,sv] NZ #[.int .i64 0,.int .i64 20,.int .i64 2,.int .i64 15,.int .i64 6,.int .i64 20,.int .i64 300,nv,sv] 32 rfl rfl rfl hq3 (by exact (by decide:0+9≤9)) (by kernel_rfl) HON.out rfl ?_
      intro w4 hq4 hm4
      have E4:Ext w2 w4:=hx3.mutE hm4 (fun g hg h=>by have h2:g=V:=h; omega)
      have HVV0:=Lib.hid (show BoxAt w4 V #[.int .i64 0,.int .i64 20,.int .i64 2,.int .i64 15,.int .i64 6,.int .i64 20,.int .i64 300,nv,sv] 32 from hq4)
      have HE4:=Lib.hid E4
      clear hq3 hsz3 hx3 hq4 hm4 E4 w3))
  go_ret
  exact ⟨rfl,HE2.out.trans HE4.out⟩
 | true =>
  have HNT:=Lib.hid (H3.out rfl)
  obtain ⟨n,hn⟩:∃ n,t.ports.length=n:=⟨_,rfl⟩
  have hn1:1≤n∧n≤5:=by obtain ⟨q1,q2,_⟩:=okT_spec HOK.out; omega
  have HNN:=Lib.hid hn
  obtain ⟨nb,no,ncap,hnve,hids,hnp⟩:=node_open HNT.out.1 (by rw [nodesT_len,hn]; exact hn1.1)
  rw [nodesT_len,hn] at hnve hids hnp
  have HNV:=Lib.hid hnve
  clear hnve
  have HID:=Lib.hid hids
  have HNP:=Lib.hid hnp
  obtain ⟨sb,so,scap,hsve,hsegs⟩:=segs_open HNT.out.2 (by rw [segsT_len]; omega)
  rw [segsT_len] at hsve hsegs
  have HSVE:=Lib.hid hsve
  have HSG:=Lib.hid hsegs
  clear hn H3 hids hnp hsve hsegs
  have HS0:=Lib.hid (Ext.refl w2)
  go_wp2_with (first
   | fail
   | ((with_reducible refine at_alloc 32 ?_); refine al_zero rfl 32 rfl NZ zero_rn ?_
      intro V w3 hq3 hsz3 hx3)
   | ((with_reducible refine at_store 32 ?_); refine st_at rfl rfl 32 _ _ rfl V 0 _ #[.int .i64 0,.int .i64 20,.int .i64 2,.int .i64 15,.int .i64 6,.int .i64 20,.int .i64 300,nv,sv] NZ #[.int .i64 0,.int .i64 20,.int .i64 2,.int .i64 15,.int .i64 6,.int .i64 20,.int .i64 300,nv,sv] 32 rfl rfl rfl hq3 (by exact (by decide:0+9≤9)) (by kernel_rfl) HON.out rfl ?_
      intro w4 hq4 hm4
      have E4:Ext w2 w4:=hx3.mutE hm4 (fun g hg h=>by have h2:g=V:=h; omega)
      have HVV0:=Lib.hid (show BoxAt w4 V #[.int .i64 0,.int .i64 20,.int .i64 2,.int .i64 15,.int .i64 6,.int .i64 20,.int .i64 300,nv,sv] 32 from hq4)
      have HE4:=Lib.hid E4
      have HS0:=Lib.hid (HS0.out.trans E4)
      clear hq3 hsz3 hx3 hq4 hm4 E4 w3))
  have hj0:∃ j:Nat,j≤6∧Int.tmod kk 7=(j:Int):=⟨(Int.tmod kk 7).toNat,by
   have h1:=HKK.out
   rw [Int.tmod_eq_emod_of_nonneg h1.1]
   omega,by
   have h1:=HKK.out
   rw [Int.tmod_eq_emod_of_nonneg h1.1]
   omega⟩
  obtain ⟨j,hj6,hjt⟩:=hj0
  refine (ups_any u w4 HU.out).mono ?_
  rintro e wu ⟨uv,rfl,hub,hxu⟩
  obtain ⟨ub,uo,ucap,huv,-⟩:=bools_open hub (by rw [upsL_len]; omega)
  subst huv
  have hbc:=bools_cut (j:=j) hub (by rw [upsL_len]; exact hj6) (by rw [upsL_len]; omega)
  rw [upsL_len]
  have hc6:6≤ucap:=by
   obtain ⟨a',cap',e',-,hf'⟩:=hub
   obtain ⟨b',off',ha',-,h2',-⟩:=hf' (by rw [upsL_len]; omega)
   rw [upsL_len] at h2' e'
   simp only [Value.slice.injEq] at e'
   omega
  obtain ⟨U,hU⟩:∃ l,(upsL u).take j=l:=⟨_,rfl⟩
  have HULL:=Lib.hid (show U.length=j from by rw [← hU,List.length_take,upsL_len]; omega)
  rw [hU] at hbc
  have HUB:=Lib.hid hbc
  have HSU:=Lib.hid (HS0.out.trans hxu)
  have HVU:=Lib.hid (HVV0.out.ext hxu)
  have hk1:=HKK.out.1
  have hk2:=HKK.out.2
  have hkw:IntKind.i64.wrap kk=kk:=by rw [IntKind.wrap_i64]; omega
  have hjw:IntKind.i64.wrap (j:Int)=(j:Int):=by rw [IntKind.wrap_i64]; omega
  have dj1:decide ((j:Int) < 0)=false:=by simp
  have dj2:decide ((j:Int)≤(6:Int))=true:=by simp; omega
  have dj3:decide ((j:Int)≤(ucap:Int))=true:=by simp; omega
  clear hub hbc hU hxu
  go_wp2_with (first
   | fail
   | ((with_reducible refine at_load 32 ?_); refine wpList_load_row rfl 32 _ rfl V rfl 32 #[.int .i64 0,.int .i64 20,.int .i64 2,.int .i64 15,.int .i64 6,.int .i64 20,.int .i64 300,nv,sv] (0,0) _ HVU.out Try.underlying32 rfl size_rn ?_))
  refine (mynet_any nv sv t wu (HNT.out.1.ext HSU.out) (HNT.out.2.ext HSU.out) HR.out HOK.out).mono ?_
  rintro e wm1 ⟨nm1,sm1,rfl,hnet,-,-,hxm1⟩
  go_wp2_with fail
  refine (plan_any nm1 sm1 _ _ _ U wm1 hnet (HUB.out.ext hxm1)).mono ?_
  rintro e wv1 ⟨pv,rfl,hpl,hxv1⟩
  have HG1:=Lib.hid (hxm1.trans hxv1)
  have HOKN:=Lib.hid (tiny_ok HR.out HOK.out)
  have HNL:=Lib.hid (show (nodesT t).length=n from by rw [nodesT_len]; exact HNN.out)
  obtain ⟨aa1,ao1,ca1,ba1,bo1,cb1,ya1,yo1,cc1,da1,dof1,cd1,rfl,hrc1,hby1,hro1⟩:=plan_open3 (n:=n) (m:=6) hpl (by rw [planF_root_len]; exact HNL.out) (by rw [planF_cost_len]; exact HNL.out) (by rw [planF_by_len,raisedL_len,segsT_len]) (by rw [planF_roles_len]; exact HNL.out) hn1.1 (by omega)
  obtain ⟨q,hq⟩:∃ q,planF (nodesT t) (raisedL U (segsT t))=q:=⟨_,rfl⟩
  have HRL32:=Lib.hid (show ∀ i,i < n→(q.roles.getD i []).length≤10000 from fun i hi=>by
   have hi2:i < (nodesT t).length:=by rw [HNL.out]; exact hi
   rw [← hq,planF_role_len hi2]
   have:=HOKN.out.p1000 ((nodesT t).getD i default) (by rw [List.getD_eq_getElem?_getD,List.getElem?_eq_getElem hi2]; exact List.getElem_mem hi2)
   omega)
  rw [hq] at hrc1 hby1 hro1
  have HRC1:=Lib.hid hrc1
  have HBY1:=Lib.hid hby1
  have HRO1:=Lib.hid hro1
  have HQ:=Lib.hid hq
  clear hnet hpl hxm1 hxv1 hrc1 hby1 hro1 hq
  go_wp2_with (first
   | fail
   | ((with_reducible refine at_alloc 42 ?_); refine al_zero rfl 42 rfl PNZ zero_pn ?_
      intro P1 wa1 hqa hsza hxa)
   | ((with_reducible refine at_store 42 ?_); refine st_at rfl rfl 42 _ _ rfl P1 0 _ #[.slice (some ⟨aa1,ao1,none⟩) n ca1,.slice (some ⟨ba1,bo1,none⟩) n cb1,.slice (some ⟨ya1,yo1,none⟩) 6 cc1,.slice (some ⟨da1,dof1,none⟩) n cd1] PNZ #[.slice (some ⟨aa1,ao1,none⟩) n ca1,.slice (some ⟨ba1,bo1,none⟩) n cb1,.slice (some ⟨ya1,yo1,none⟩) 6 cc1,.slice (some ⟨da1,dof1,none⟩) n cd1] 42 rfl rfl rfl hqa (by exact (by decide:0+4≤4)) (by kernel_rfl) rfl rfl ?_
      intro wp1 hqp hmp
      have EP:Ext wv1 wp1:=hxa.mutE hmp (fun g hg h=>by have h2:g=P1:=h; omega)
      have HCE1:=Lib.hid EP
      have HB1:=Lib.hid (show BoxAt wp1 P1 #[.slice (some ⟨aa1,ao1,none⟩) n ca1,.slice (some ⟨ba1,bo1,none⟩) n cb1,.slice (some ⟨ya1,yo1,none⟩) 6 cc1,.slice (some ⟨da1,dof1,none⟩) n cd1] 42 from hqp)
      have HS1:=Lib.hid (HSU.out.trans (HG1.out.trans EP))
      have HVV1:=Lib.hid (HVU.out.ext (HG1.out.trans EP))
      have HU1:=Lib.hid (HUB.out.ext (HG1.out.trans EP))
      clear hqa hsza hxa hqp hmp EP)
   | ((with_reducible refine at_load 32 ?_); refine wpList_load_row rfl 32 _ rfl V rfl 32 #[.int .i64 0,.int .i64 20,.int .i64 2,.int .i64 15,.int .i64 6,.int .i64 20,.int .i64 300,nv,sv] (0,0) _ HVV1.out Try.underlying32 rfl size_rn ?_))
  have HNF:=Lib.hid (HNT.out.1.ext HS1.out)
  have HSF:=Lib.hid (HNT.out.2.ext HS1.out)
  rw [HNV.out] at HNF
  rw [HNV.out]
  refine (fof_any 0 20 2 15 6 20 300 nb no n ncap sv _ (nodesT t) (segsT t) U wp1 HNF.out HNL.out HSF.out HU1.out HOKN.out (by rw [segsT_len]; omega) (by rw [HULL.out,segsT_len]; exact hj6)).mono ?_
  rintro e wv2 ⟨pv2,rfl,hpl,hxv2⟩
  rw [doc_plan HOKN.out U,HQ.out] at hpl
  have HG2:=Lib.hid hxv2
  obtain ⟨aa2,ao2,ca2,ba2,bo2,cb2,ya2,yo2,cc2,da2,dof2,cd2,rfl,hrc2,hby2,hro2⟩:=plan_open3 (n:=n) (m:=6) hpl (by rw [← HQ.out,planF_root_len]; exact HNL.out) (by rw [← HQ.out,planF_cost_len]; exact HNL.out) (by rw [← HQ.out,planF_by_len,raisedL_len,segsT_len]) (by rw [← HQ.out,planF_roles_len]; exact HNL.out) hn1.1 (by omega)
  have HRC2:=Lib.hid hrc2
  have HBY2:=Lib.hid hby2
  have HRO2:=Lib.hid hro2
  clear hpl hxv2 hrc2 hby2 hro2
  go_wp2_with (first
   | fail
   | ((with_reducible refine at_alloc 51 ?_); refine al_zero rfl 51 rfl PNZ zero_dp ?_
      intro P2 wa2 hqa hsza hxa)
   | ((with_reducible refine at_store 51 ?_); refine st_at rfl rfl 51 _ _ rfl P2 0 _ #[.slice (some ⟨aa2,ao2,none⟩) n ca2,.slice (some ⟨ba2,bo2,none⟩) n cb2,.slice (some ⟨ya2,yo2,none⟩) 6 cc2,.slice (some ⟨da2,dof2,none⟩) n cd2] PNZ #[.slice (some ⟨aa2,ao2,none⟩) n ca2,.slice (some ⟨ba2,bo2,none⟩) n cb2,.slice (some ⟨ya2,yo2,none⟩) 6 cc2,.slice (some ⟨da2,dof2,none⟩) n cd2] 51 rfl rfl rfl hqa (by exact (by decide:0+4≤4)) (by kernel_rfl) rfl rfl ?_
      intro wp2 hqp hmp
      have EP:Ext wv2 wp2:=hxa.mutE hmp (fun g hg h=>by have h2:g=P2:=h; omega)
      have HCE2:=Lib.hid EP
      have HB2:=Lib.hid (show BoxAt wp2 P2 #[.slice (some ⟨aa2,ao2,none⟩) n ca2,.slice (some ⟨ba2,bo2,none⟩) n cb2,.slice (some ⟨ya2,yo2,none⟩) 6 cc2,.slice (some ⟨da2,dof2,none⟩) n cd2] 51 from hqp)
      have HX12:=Lib.hid (HG2.out.trans EP)
      have HS2:=Lib.hid (HS1.out.trans (HG2.out.trans EP))
      have HB1:=Lib.hid (HB1.out.ext (HG2.out.trans EP))
      have HA0:=Lib.hid (show ∀ W',Ext wp2 W'→W'.cell? ⟨P1,0,none⟩=some (.slice (some ⟨aa1,ao1,none⟩) n ca1) from fun W' hw=>(HB1.out.ext hw).cell 0 rfl)
      have HA1:=Lib.hid (show ∀ W',Ext wp2 W'→W'.cell? ⟨P1,1,none⟩=some (.slice (some ⟨ba1,bo1,none⟩) n cb1) from fun W' hw=>(HB1.out.ext hw).cell 1 rfl)
      have HA2:=Lib.hid (show ∀ W',Ext wp2 W'→W'.cell? ⟨P1,2,none⟩=some (.slice (some ⟨ya1,yo1,none⟩) 6 cc1) from fun W' hw=>(HB1.out.ext hw).cell 2 rfl)
      have HA3:=Lib.hid (show ∀ W',Ext wp2 W'→W'.cell? ⟨P1,3,none⟩=some (.slice (some ⟨da1,dof1,none⟩) n cd1) from fun W' hw=>(HB1.out.ext hw).cell 3 rfl)
      have HD0:=Lib.hid (show ∀ W',Ext wp2 W'→W'.cell? ⟨P2,0,none⟩=some (.slice (some ⟨aa2,ao2,none⟩) n ca2) from fun W' hw=>(HB2.out.ext hw).cell 0 rfl)
      have HD1:=Lib.hid (show ∀ W',Ext wp2 W'→W'.cell? ⟨P2,1,none⟩=some (.slice (some ⟨ba2,bo2,none⟩) n cb2) from fun W' hw=>(HB2.out.ext hw).cell 1 rfl)
      have HD2:=Lib.hid (show ∀ W',Ext wp2 W'→W'.cell? ⟨P2,2,none⟩=some (.slice (some ⟨ya2,yo2,none⟩) 6 cc2) from fun W' hw=>(HB2.out.ext hw).cell 2 rfl)
      have HD3:=Lib.hid (show ∀ W',Ext wp2 W'→W'.cell? ⟨P2,3,none⟩=some (.slice (some ⟨da2,dof2,none⟩) n cd2) from fun W' hw=>(HB2.out.ext hw).cell 3 rfl)
      have x0:=HA0.out wp2 (Ext.refl _)
      have x1:=HA1.out wp2 (Ext.refl _)
      have x2:=HA2.out wp2 (Ext.refl _)
      have x3:=HA3.out wp2 (Ext.refl _)
      have y0:=HD0.out wp2 (Ext.refl _)
      have y1:=HD1.out wp2 (Ext.refl _)
      have y2:=HD2.out wp2 (Ext.refl _)
      have y3:=HD3.out wp2 (Ext.refl _)
      clear hqa hsza hxa hqp hmp EP))
  clear x0 x1 x2 x3 y0 y1 y2 y3 hkw hjw hjt dj1 dj2 dj3
  go_loopw [13] (fun s wr=>∃ (i:Nat) (wo:World),wo=wr∧s=.int .i64 i∧i≤n∧Ext wp2 wo) (fun s _=>n - (intOf s).toNat)
  case atStart=>exact ⟨0,_,rfl,rfl,by omega,Ext.refl _⟩
  case round =>
   obtain ⟨i,wo,rfl,rfl,hi,hx⟩:=hrel
   rename World=>wl
   have HXL:=Lib.hid hx
   have y0:=HD0.out wl hx
   have hup:IntKind.i64.wrap ((i:Int)+1)=((i+1:Nat):Int):=by rw [IntKind.wrap_i64]; omega
   clear hx
   by_cases hlt:i < n
   ·have dlt:decide ((i:Int) < (n:Int))=true:=by simp; omega
    obtain ⟨rv1,hr1,hi1⟩:=HRO1.out i hlt
    obtain ⟨rv2,hr2,hi2⟩:=HRO2.out i hlt
    have HR1:=Lib.hid hr1
    have HR2:=Lib.hid hr2
    have HI1:=Lib.hid hi1
    have HI2:=Lib.hid hi2
    obtain ⟨x,hx1⟩:∃ x,at0 q.root i=x:=⟨_,rfl⟩
    obtain ⟨y,hy1⟩:∃ x,at0 q.cost i=x:=⟨_,rfl⟩
    have K1:=Lib.hid (show ∀ W',Ext wl W'→W'.cell? ⟨aa1,ao1+i,none⟩=some (.int .u64 x)∧W'.cell? ⟨ba1,bo1+i,none⟩=some (.int .u32 y) from fun W' hw=>by rw [← hx1,← hy1]; exact HRC1.out W' (HCE1.out.trans (HX12.out.trans (HXL.out.trans hw))) i hlt)
    have K2:=Lib.hid (show ∀ W',Ext wl W'→W'.cell? ⟨aa2,ao2+i,none⟩=some (.int .u64 x)∧W'.cell? ⟨ba2,bo2+i,none⟩=some (.int .u32 y) from fun W' hw=>by rw [← hx1,← hy1]; exact HRC2.out W' (HCE2.out.trans (HXL.out.trans hw)) i hlt)
    clear hr1 hr2 hi1 hi2 hx1 hy1
    go_wp2_with fail
    refine beginL (S:=fun W'=>Ext wl W') (by kernel_rfl) ?_
    intro wd hqx
    have hq0:Ext wl wd:=hqx
    refine tLp 0 ((.pointer (some ⟨P1,0,none⟩))) rfl hq0 ?_
    simp only [ps]
    refine tL 1 (_) rfl (yieldsIf_cell rfl 37 _ rfl ⟨P1,0,none⟩ rfl (.slice (some ⟨aa1,ao1,none⟩) n ca1) _ (fun W' hW'=>HA0.out W' (HXL.out.trans hW')) Try.underlying37 rfl) hq0 ?_
    simp only [ps]
    refine tLp 2 ((.int .i64 (i:Int))) rfl hq0 ?_
    simp only [ps]
    refine tL 3 ((.pointer (some ⟨aa1,ao1+i,none⟩))) rfl (Or.inl ⟨rfl,fun W' _=>by go_simp <;> (intro h; omega)⟩) hq0 ?_
    simp only [ps]
    refine tL 4 (_) rfl (yieldsIf_cell rfl 53 _ rfl ⟨aa1,ao1+i,none⟩ rfl (.int .u64 x) _ (fun W' hW'=>(K1.out W' hW').1) Try.underlying53 rfl) hq0 ?_
    simp only [ps]
    refine tLp 5 ((.pointer (some ⟨P2,0,none⟩))) rfl hq0 ?_
    simp only [ps]
    refine tL 6 (_) rfl (yieldsIf_cell rfl 37 _ rfl ⟨P2,0,none⟩ rfl (.slice (some ⟨aa2,ao2,none⟩) n ca2) _ (fun W' hW'=>HD0.out W' (HXL.out.trans hW')) Try.underlying37 rfl) hq0 ?_
    simp only [ps]
    refine tLp 7 ((.int .i64 (i:Int))) rfl hq0 ?_
    simp only [ps]
    refine tL 8 ((.pointer (some ⟨aa2,ao2+i,none⟩))) rfl (Or.inl ⟨rfl,fun W' _=>by go_simp <;> (intro h; omega)⟩) hq0 ?_
    simp only [ps]
    refine tL 9 (_) rfl (yieldsIf_cell rfl 53 _ rfl ⟨aa2,ao2+i,none⟩ rfl (.int .u64 x) _ (fun W' hW'=>(K2.out W' hW').1) Try.underlying53 rfl) hq0 ?_
    simp only [ps]
    refine tL 10 ((.bool false)) rfl (Or.inl ⟨rfl,fun W' _=>by go_simp⟩) hq0 ?_
    simp only [ps]
    refine tLp 11 ((.bool false)) rfl hq0 ?_
    simp only [ps]
    refine tLp 12 ((.pointer (some ⟨P1,1,none⟩))) rfl hq0 ?_
    simp only [ps]
    refine tL 13 (_) rfl (yieldsIf_cell rfl 38 _ rfl ⟨P1,1,none⟩ rfl (.slice (some ⟨ba1,bo1,none⟩) n cb1) _ (fun W' hW'=>HA1.out W' (HXL.out.trans hW')) Try.underlying38 rfl) hq0 ?_
    simp only [ps]
    refine tLp 14 ((.int .i64 (i:Int))) rfl hq0 ?_
    simp only [ps]
    refine tL 15 ((.pointer (some ⟨ba1,bo1+i,none⟩))) rfl (Or.inl ⟨rfl,fun W' _=>by go_simp <;> (intro h; omega)⟩) hq0 ?_
    simp only [ps]
    refine tL 16 (_) rfl (yieldsIf_cell rfl 54 _ rfl ⟨ba1,bo1+i,none⟩ rfl (.int .u32 y) _ (fun W' hW'=>(K1.out W' hW').2) Try.underlying54 rfl) hq0 ?_
    simp only [ps]
    refine tLp 17 ((.pointer (some ⟨P2,1,none⟩))) rfl hq0 ?_
    simp only [ps]
    refine tL 18 (_) rfl (yieldsIf_cell rfl 38 _ rfl ⟨P2,1,none⟩ rfl (.slice (some ⟨ba2,bo2,none⟩) n cb2) _ (fun W' hW'=>HD1.out W' (HXL.out.trans hW')) Try.underlying38 rfl) hq0 ?_
    simp only [ps]
    refine tLp 19 ((.int .i64 (i:Int))) rfl hq0 ?_
    simp only [ps]
    refine tL 20 ((.pointer (some ⟨ba2,bo2+i,none⟩))) rfl (Or.inl ⟨rfl,fun W' _=>by go_simp <;> (intro h; omega)⟩) hq0 ?_
    simp only [ps]
    refine tL 21 (_) rfl (yieldsIf_cell rfl 54 _ rfl ⟨ba2,bo2+i,none⟩ rfl (.int .u32 y) _ (fun W' hW'=>(K2.out W' hW').2) Try.underlying54 rfl) hq0 ?_
    simp only [ps]
    refine tL 22 ((.bool false)) rfl (Or.inl ⟨rfl,fun W' _=>by go_simp⟩) hq0 ?_
    simp only [ps]
    refine tLp 23 ((.bool false)) rfl hq0 ?_
    simp only [ps]
    refine tLp 24 ((.bool false)) rfl hq0 ?_
    simp only [ps]
    refine tLp 25 ((.pointer (some ⟨P1,3,none⟩))) rfl hq0 ?_
    simp only [ps]
    refine tL 26 (_) rfl (yieldsIf_cell rfl 40 _ rfl ⟨P1,3,none⟩ rfl (.slice (some ⟨da1,dof1,none⟩) n cd1) _ (fun W' hW'=>HA3.out W' (HXL.out.trans hW')) Try.underlying40 rfl) hq0 ?_
    simp only [ps]
    refine tLp 27 ((.int .i64 (i:Int))) rfl hq0 ?_
    simp only [ps]
    refine tL 28 ((.pointer (some ⟨da1,dof1+i,none⟩))) rfl (Or.inl ⟨rfl,fun W' _=>by go_simp <;> (intro h; omega)⟩) hq0 ?_
    simp only [ps]
    refine tL 29 (_) rfl (yieldsIf_cell rfl 56 _ rfl ⟨da1,dof1+i,none⟩ rfl rv1 _ (fun W' hW'=>HR1.out W' (HCE1.out.trans (HX12.out.trans (HXL.out.trans hW')))) Try.underlying56 rfl) hq0 ?_
    simp only [ps]
    refine tLp 30 ((.pointer (some ⟨P2,3,none⟩))) rfl hq0 ?_
    simp only [ps]
    refine tL 31 (_) rfl (yieldsIf_cell rfl 40 _ rfl ⟨P2,3,none⟩ rfl (.slice (some ⟨da2,dof2,none⟩) n cd2) _ (fun W' hW'=>HD3.out W' (HXL.out.trans hW')) Try.underlying40 rfl) hq0 ?_
    simp only [ps]
    refine tLp 32 ((.int .i64 (i:Int))) rfl hq0 ?_
    simp only [ps]
    refine tL 33 ((.pointer (some ⟨da2,dof2+i,none⟩))) rfl (Or.inl ⟨rfl,fun W' _=>by go_simp <;> (intro h; omega)⟩) hq0 ?_
    simp only [ps]
    refine tL 34 (_) rfl (yieldsIf_cell rfl 56 _ rfl ⟨da2,dof2+i,none⟩ rfl rv2 _ (fun W' hW'=>HR2.out W' (HCE2.out.trans (HXL.out.trans hW'))) Try.underlying56 rfl) hq0 ?_
    simp only [ps]
    refine runG (i:=35) rfl (by rfl) (by kernel_rfl) (fun K hK=>?_)
    go_simp
    refine (ints_any wd rv1 rv2 (q.roles.getD i []) (HI1.out _ (HCE1.out.trans (HX12.out.trans (HXL.out.trans (by assumption))))) (HI2.out _ (HCE2.out.trans (HXL.out.trans (by assumption)))) (HRL32.out i hlt)).mono ?_
    rintro e wc1 ⟨rfl,hx⟩
    have hq1:=hq0.trans hx
    refine hK.out _ _ hq1 (fun hHeld=>?_)
    try simp only [ps]
    clear hK K hHeld
    refine tLp 36 ((.bool false)) rfl hq1 ?_
    simp only [ps]
    refine tLp 37 ((.bool false)) rfl hq1 ?_
    simp only [ps]
    have hqF:=hq1
    refine wpAnyH_done (by kernel_rfl) ?_ _
    go_wp2_with fail
    go_roundw
    case rel=>exact ⟨i+1,_,rfl,by go_num,hlt,HXL.out.trans hqF⟩
    case measure=>simp [intOf] <;> omega
   ·have dlt:decide ((i:Int) < (n:Int))=false:=by simp; omega
    go_wp2_with fail
    go_loopw [14] (fun s wr=>∃ (i:Nat) (wo:World),wo=wr∧s=.int .i64 i∧i≤6∧Ext wp2 wo) (fun s _=>6 - (intOf s).toNat)
    case atStart=>exact ⟨0,_,rfl,rfl,by omega,HXL.out⟩
    case round =>
     obtain ⟨s,wo,rfl,rfl,hs,hx⟩:=hrel
     rename World=>wj
     have HXJ:=Lib.hid hx
     have y2:=HD2.out wj hx
     have hups:IntKind.i64.wrap ((s:Int)+1)=((s+1:Nat):Int):=by rw [IntKind.wrap_i64]; omega
     clear hx
     by_cases hls:s < 6
     ·have dls:decide ((s:Int) < (6:Int))=true:=by simp; omega
      obtain ⟨b1,hb1⟩:∃ x,(q.by_.getD s (0,0)).1=x:=⟨_,rfl⟩
      obtain ⟨b2,hb2⟩:∃ x,(q.by_.getD s (0,0)).2=x:=⟨_,rfl⟩
      have K1:=Lib.hid (show ∀ W',Ext wj W'→W'.cell? ⟨ya1,yo1+s*2,none⟩=some (.int .i64 b1)∧W'.cell? ⟨ya1,yo1+s*2+1,none⟩=some (.int .i64 b2) from fun W' hw=>by rw [← hb1,← hb2]; exact HBY1.out W' (HCE1.out.trans (HX12.out.trans (HXJ.out.trans hw))) s hls)
      have K2:=Lib.hid (show ∀ W',Ext wj W'→W'.cell? ⟨ya2,yo2+s*2,none⟩=some (.int .i64 b1)∧W'.cell? ⟨ya2,yo2+s*2+1,none⟩=some (.int .i64 b2) from fun W' hw=>by rw [← hb1,← hb2]; exact HBY2.out W' (HCE2.out.trans (HXJ.out.trans hw)) s hls)
      clear hb1 hb2
      go_wp2_with fail
      refine beginL (S:=fun W'=>Ext wj W') (by kernel_rfl) ?_
      intro wd hqx
      have hq0:Ext wj wd:=hqx
      refine tLp 0 ((.pointer (some ⟨P1,2,none⟩))) rfl hq0 ?_
      simp only [ps]
      refine tL 1 (_) rfl (yieldsIf_cell rfl 39 _ rfl ⟨P1,2,none⟩ rfl (.slice (some ⟨ya1,yo1,none⟩) 6 cc1) _ (fun W' hW'=>HA2.out W' (HXJ.out.trans hW')) Try.underlying39 rfl) hq0 ?_
      simp only [ps]
      refine tLp 2 ((.int .i64 (s:Int))) rfl hq0 ?_
      simp only [ps]
      refine tL 3 ((.pointer (some ⟨ya1,yo1+s*2,none⟩))) rfl (Or.inl ⟨rfl,fun W' _=>by go_simp <;> (intro h; omega)⟩) hq0 ?_
      simp only [ps]
      refine tLp 4 ((.pointer (some ⟨ya1,yo1+s*2,none⟩))) rfl hq0 ?_
      simp only [ps]
      refine tL 5 (_) rfl (yieldsIf_cell rfl 3 _ rfl ⟨ya1,yo1+s*2,none⟩ rfl (.int .i64 b1) _ (fun W' hW'=>(K1.out W' hW').1) Try.underlying3 rfl) hq0 ?_
      simp only [ps]
      refine tLp 6 ((.pointer (some ⟨P2,2,none⟩))) rfl hq0 ?_
      simp only [ps]
      refine tL 7 (_) rfl (yieldsIf_cell rfl 49 _ rfl ⟨P2,2,none⟩ rfl (.slice (some ⟨ya2,yo2,none⟩) 6 cc2) _ (fun W' hW'=>HD2.out W' (HXJ.out.trans hW')) Try.underlying49 rfl) hq0 ?_
      simp only [ps]
      refine tLp 8 ((.int .i64 (s:Int))) rfl hq0 ?_
      simp only [ps]
      refine tL 9 ((.pointer (some ⟨ya2,yo2+s*2,none⟩))) rfl (Or.inl ⟨rfl,fun W' _=>by go_simp <;> (intro h; omega)⟩) hq0 ?_
      simp only [ps]
      refine tLp 10 ((.pointer (some ⟨ya2,yo2+s*2,none⟩))) rfl hq0 ?_
      simp only [ps]
      refine tL 11 (_) rfl (yieldsIf_cell rfl 3 _ rfl ⟨ya2,yo2+s*2,none⟩ rfl (.int .i64 b1) _ (fun W' hW'=>(K2.out W' hW').1) Try.underlying3 rfl) hq0 ?_
      simp only [ps]
      refine tL 12 ((.bool false)) rfl (Or.inl ⟨rfl,fun W' _=>by go_simp⟩) hq0 ?_
      simp only [ps]
      refine tLp 13 ((.bool false)) rfl hq0 ?_
      simp only [ps]
      refine tLp 14 ((.pointer (some ⟨P1,2,none⟩))) rfl hq0 ?_
      simp only [ps]
      refine tL 15 (_) rfl (yieldsIf_cell rfl 39 _ rfl ⟨P1,2,none⟩ rfl (.slice (some ⟨ya1,yo1,none⟩) 6 cc1) _ (fun W' hW'=>HA2.out W' (HXJ.out.trans hW')) Try.underlying39 rfl) hq0 ?_
      simp only [ps]
      refine tLp 16 ((.int .i64 (s:Int))) rfl hq0 ?_
      simp only [ps]
      refine tL 17 ((.pointer (some ⟨ya1,yo1+s*2,none⟩))) rfl (Or.inl ⟨rfl,fun W' _=>by go_simp <;> (intro h; omega)⟩) hq0 ?_
      simp only [ps]
      refine tLp 18 ((.pointer (some ⟨ya1,yo1+s*2+1,none⟩))) rfl hq0 ?_
      simp only [ps]
      refine tL 19 (_) rfl (yieldsIf_cell rfl 3 _ rfl ⟨ya1,yo1+s*2+1,none⟩ rfl (.int .i64 b2) _ (fun W' hW'=>(K1.out W' hW').2) Try.underlying3 rfl) hq0 ?_
      simp only [ps]
      refine tLp 20 ((.pointer (some ⟨P2,2,none⟩))) rfl hq0 ?_
      simp only [ps]
      refine tL 21 (_) rfl (yieldsIf_cell rfl 49 _ rfl ⟨P2,2,none⟩ rfl (.slice (some ⟨ya2,yo2,none⟩) 6 cc2) _ (fun W' hW'=>HD2.out W' (HXJ.out.trans hW')) Try.underlying49 rfl) hq0 ?_
      simp only [ps]
      refine tLp 22 ((.int .i64 (s:Int))) rfl hq0 ?_
      simp only [ps]
      refine tL 23 ((.pointer (some ⟨ya2,yo2+s*2,none⟩))) rfl (Or.inl ⟨rfl,fun W' _=>by go_simp <;> (intro h; omega)⟩) hq0 ?_
      simp only [ps]
      refine tLp 24 ((.pointer (some ⟨ya2,yo2+s*2+1,none⟩))) rfl hq0 ?_
      simp only [ps]
      refine tL 25 (_) rfl (yieldsIf_cell rfl 3 _ rfl ⟨ya2,yo2+s*2+1,none⟩ rfl (.int .i64 b2) _ (fun W' hW'=>(K2.out W' hW').2) Try.underlying3 rfl) hq0 ?_
      simp only [ps]
      refine tL 26 ((.bool false)) rfl (Or.inl ⟨rfl,fun W' _=>by go_simp⟩) hq0 ?_
      simp only [ps]
      refine tLp 27 ((.bool false)) rfl hq0 ?_
      simp only [ps]
      have hqF:=hq0
      refine wpAnyH_done (by kernel_rfl) ?_ _
      go_wp2_with fail
      go_roundw
      case rel=>exact ⟨s+1,_,rfl,by go_num,hls,HXJ.out.trans hqF⟩
      case measure=>simp [intOf] <;> omega
     ·have dls:decide ((s:Int) < (6:Int))=false:=by simp; omega
      go_wp2_with fail
      go_ret
      exact ⟨rfl,HE2.out.trans (HS2.out.trans HXJ.out)⟩
end Go.Proofs.Ytamnmjckhicapaa
