/- Part 9 of what PlanVersions stands on. No statement is proved here. -/
import Derived.Test.YtamnmjckhicapaaPtFh
namespace Go.Proofs.Ytamnmjckhicapaa
open Go.RowKit Go.BigFrame Go.WideShapes Go.ChangeShapes Go.Deep
set_option linter.unusedVariables false
set_option linter.unusedSimpArgs false
set_option maxRecDepth 100000
set_option maxRecDepth 100000
set_option maxRecDepth 100000 in
set_option maxHeartbeats 2000000 in
theorem part_any (w:World) (g n cap:Nat) (l0:List Int) (a b pv:Nat) (hab:a < b) (hpa:a≤pv) (hpb:pv < b) (hb:b≤n) (hn:n≤500) (h:Nums w g l0) (hl0:l0.length=n) :
    Calls Try.prog 92 #[(.slice (some ⟨g,0,none⟩) n cap),.int .i64 a,.int .i64 b,.int .i64 pv] w (PartP w g n (Go.Sort.partition ltI l0.toArray a b pv)):=by
 have NU:=Lib.hid h
 have hln:l0.length=n:=hl0
 obtain ⟨a1,ha1⟩:∃ a1,a+1=a1:=⟨_,rfl⟩
 have HA1:=Lib.hid ha1
 obtain ⟨i0,hi0⟩:∃ i0,i0=a1:=⟨_,rfl⟩
 obtain ⟨j0,hj0⟩:∃ j0,b - 1=j0:=⟨_,rfl⟩
 have HI0:=Lib.hid (And.intro hi0 hj0)
 have hw1:IntKind.i64.wrap ((a:Int)+1)=(i0:Int):=by rw [IntKind.wrap_i64]; omega
 have hw2:IntKind.i64.wrap ((b:Int) - 1)=(j0:Int):=by rw [IntKind.wrap_i64]; omega
 have han:a < n:=by omega
 have hpn:pv < n:=by omega
 have LB:=Lib.hid (show a1≤i0∧i0≤j0+2∧j0 < n by omega)
 clear h ha1 hi0 hj0
 go_enter Try.func92,Try.ntmps92
 obtain ⟨x,hvp⟩:∃ x,at0 l0 a=x:=⟨_,rfl⟩
 obtain ⟨y,hvq⟩:∃ y,at0 l0 pv=y:=⟨_,rfl⟩
 go_wp2_with fail
 refine beginZ (S:=fun W'=>Ext w W') 13 (by kernel_rfl) ?_
 intro wd hqx
 have hq0:Ext w wd:=hqx
 refine takeY (i:=0) (z:=13) (v:=(.slice (some ⟨g,0,none⟩) n cap)) rfl (by kernel_rfl) (by kernel_rfl) (by kernel_rfl) (by kernel_rfl) (fun _ _ _ h=>h) (Or.inl ⟨rfl,fun _ _=>rfl⟩) hq0 ?_
 simp only [ps]
 refine takeY (i:=1) (z:=13) (v:=(.int .i64 (a:Int))) rfl (by kernel_rfl) (by kernel_rfl) (by kernel_rfl) (by kernel_rfl) (fun _ _ _ h=>h) (Or.inl ⟨rfl,fun _ _=>rfl⟩) hq0 ?_
 simp only [ps]
 refine takeY (i:=2) (z:=13) (v:=(.slice (some ⟨g,0,none⟩) n cap)) rfl (by kernel_rfl) (by kernel_rfl) (by kernel_rfl) (by kernel_rfl) (fun _ _ _ h=>h) (Or.inl ⟨rfl,fun _ _=>rfl⟩) hq0 ?_
 simp only [ps]
 refine takeY (i:=3) (z:=13) (v:=(.int .i64 (pv:Int))) rfl (by kernel_rfl) (by kernel_rfl) (by kernel_rfl) (by kernel_rfl) (fun _ _ _ h=>h) (Or.inl ⟨rfl,fun _ _=>rfl⟩) hq0 ?_
 simp only [ps]
 refine takeY (i:=4) (z:=13) (v:=(.slice (some ⟨g,0,none⟩) n cap)) rfl (by kernel_rfl) (by kernel_rfl) (by kernel_rfl) (by kernel_rfl) (fun _ _ _ h=>h) (Or.inl ⟨rfl,fun _ _=>rfl⟩) hq0 ?_
 simp only [ps]
 refine takeY (i:=5) (z:=13) (v:=(.int .i64 (pv:Int))) rfl (by kernel_rfl) (by kernel_rfl) (by kernel_rfl) (by kernel_rfl) (fun _ _ _ h=>h) (Or.inl ⟨rfl,fun _ _=>rfl⟩) hq0 ?_
 simp only [ps]
 refine takeY (i:=6) (z:=13) (v:=(.pointer (some ⟨g,pv,none⟩))) rfl (by kernel_rfl) (by kernel_rfl) (by kernel_rfl) (by kernel_rfl) (fun _ _ _ h=>h) (Or.inl ⟨rfl,fun W' _=>by go_simp <;> (intro h; omega)⟩) hq0 ?_
 simp only [ps]
 refine takeZ (i:=7) (z:=13) (v:=_) rfl rfl (by kernel_rfl) (by kernel_rfl) (by kernel_rfl) (by kernel_rfl) (by kernel_rfl) (by kernel_rfl) (fun _ _ _ h=>h) (yieldsIf_cell rfl 3 _ rfl ⟨g,pv,none⟩ rfl (.int .i64 y) _ (fun W' hW'=>(show W'.cell? ⟨g,pv,none⟩=_ from (NU.out.ext hW').cell (by omega)).trans (by rw [hvq])) Try.underlying3 rfl) hq0 ?_
 simp only [ps]
 refine takeY (i:=8) (z:=13) (v:=(.slice (some ⟨g,0,none⟩) n cap)) rfl (by kernel_rfl) (by kernel_rfl) (by kernel_rfl) (by kernel_rfl) (fun _ _ _ h=>h) (Or.inl ⟨rfl,fun _ _=>rfl⟩) hq0 ?_
 simp only [ps]
 refine takeY (i:=9) (z:=13) (v:=(.int .i64 (a:Int))) rfl (by kernel_rfl) (by kernel_rfl) (by kernel_rfl) (by kernel_rfl) (fun _ _ _ h=>h) (Or.inl ⟨rfl,fun _ _=>rfl⟩) hq0 ?_
 simp only [ps]
 refine takeY (i:=10) (z:=13) (v:=(.pointer (some ⟨g,a,none⟩))) rfl (by kernel_rfl) (by kernel_rfl) (by kernel_rfl) (by kernel_rfl) (fun _ _ _ h=>h) (Or.inl ⟨rfl,fun W' _=>by go_simp <;> (intro h; omega)⟩) hq0 ?_
 simp only [ps]
 refine takeZ (i:=11) (z:=13) (v:=_) rfl rfl (by kernel_rfl) (by kernel_rfl) (by kernel_rfl) (by kernel_rfl) (by kernel_rfl) (by kernel_rfl) (fun _ _ _ h=>h) (yieldsIf_cell rfl 3 _ rfl ⟨g,a,none⟩ rfl (.int .i64 x) _ (fun W' hW'=>(show W'.cell? ⟨g,a,none⟩=_ from (NU.out.ext hW').cell (by omega)).trans (by rw [hvp])) Try.underlying3 rfl) hq0 ?_
 simp only [ps]
 refine takeY (i:=12) (z:=13) (v:=(.pointer (some ⟨g,a,none⟩))) rfl (by kernel_rfl) (by kernel_rfl) (by kernel_rfl) (by kernel_rfl) (fun _ _ _ h=>h) (Or.inl ⟨rfl,fun W' _=>by go_simp <;> (intro h; omega)⟩) hq0 ?_
 simp only [ps]
 refine runZl (z:=13) rfl rfl (by kernel_rfl) (fun K hK=>?_)
 have hce:=(NU.out.ext hq0)
 have hc1:wd.cell? ⟨g,a,none⟩=some (.int .i64 (at0 l0 (a))):=hce.cell (by omega)
 have hf1:=hce.froz (a)
 go_simp
 refine hK.out _ _ ?_
 try simp only [ps]
 clear hK K hc1 hf1
 have hce2:=hce.set (p:=a) (by omega) (at0 l0 (pv))
 rw [hvq] at hce2
 have hq9:=(hq0.mut (fun k=>k=g)).setCell (p:=⟨g,a,none⟩) (.inl rfl) (.int .i64 y)
 refine tL 14 ((.pointer (some ⟨g,pv,none⟩))) rfl (Or.inl ⟨rfl,fun W' _=>by go_simp <;> (intro h; omega)⟩) trivial ?_
 simp only [ps]
 refine runL (i:=15) rfl rfl (by kernel_rfl) (fun K hK=>?_)
 have hc2:(wd.setCell ⟨g,a,none⟩ (.int .i64 y)).cell? ⟨g,pv,none⟩=some (.int .i64 (at0 (l0.set (a) y) (pv))):=hce2.cell (by simp; omega)
 have hf2:=hce2.froz (pv)
 go_simp
 refine hK.out _ _ trivial (fun _=>?_)
 try simp only [ps]
 clear hK K hc2 hf2
 refine wpAnyH_done (by kernel_rfl) ?_ _
 have hce3:=hce2.set (p:=pv) (by simp; omega) (at0 l0 (a))
 rw [hvp] at hce3
 have NU3:=Lib.hid (show Nums _ g (swl l0 (a) (pv)) from by unfold swl; rw [hvp,hvq]; exact hce3)
 have MU3:=Lib.hid (hq9.setCell (p:=⟨g,pv,none⟩) (.inl rfl) (.int .i64 x))
 clear hce hce2 hce3 hq9 hq0 hqx
 generalize (wd.setCell ⟨g,a,none⟩ (.int .i64 y)).setCell ⟨g,pv,none⟩ (.int .i64 x)=wm at *
 clear hvp hvq NU
 obtain ⟨l,hl⟩:∃ l,swl l0 a pv=l:=⟨_,rfl⟩
 rw [hl] at NU3
 have HL:=Lib.hid hl
 have NU:=NU3
 have MU:=MU3
 have hln:l.length=n:=by rw [← hl,swl_len]; exact hl0
 clear hl NU3 MU3
 obtain ⟨v,hva⟩:∃ v,at0 l a=v:=⟨_,rfl⟩
 obtain ⟨pru,hpu⟩:∃ p,(fun x=>ltI x l.toArray[a]!)=p:=⟨_,rfl⟩
 obtain ⟨prd,hpd⟩:∃ p,(fun x=>!ltI x l.toArray[a]!)=p:=⟨_,rfl⟩
 obtain ⟨IJu,hsu⟩:∃ I,Go.Sort.scanUp pru l.toArray j0 i0=I:=⟨_,rfl⟩
 obtain ⟨IJd,hsd⟩:∃ J,Go.Sort.scanDown prd l.toArray IJu j0=J:=⟨_,rfl⟩
 have EQ:=Lib.hid (part_split l0.toArray a b pv l.toArray pru prd IJu IJd (by rw [← HL.out,swl_arr l0 (by omega) (by omega)]) hpu hpd (by rw [show b - 1=j0 from HI0.out.2,HA1.out,← HI0.out.1]; exact hsu) (by rw [show b - 1=j0 from HI0.out.2]; exact hsd))
 have PRu:=Lib.hid (show ∀ x,pru x=ltI x v from fun x=>by rw [← hpu]; dsimp only; rw [arr_at l (by omega),hva])
 have PRd:=Lib.hid (show ∀ x,prd x=!ltI x v from fun x=>by rw [← hpd]; dsimp only; rw [arr_at l (by omega),hva])
 have HSu:=Lib.hid hsu
 have HSd:=Lib.hid hsd
 clear hpu hpd hsu hsd
 go_wp2_with fail
 go_loopw [10] (fun s wr=>∃ i:Nat,s=.int .i64 i∧(a1≤i∧i≤j0+2∧j0 < n)∧Nums wr g l∧Go.Sort.scanUp pru l.toArray j0 i=IJu∧Mut (fun k=>k=g) w wr) (fun s _=>n+3 - (intOf s).toNat)
 case atStart=>exact ⟨i0,rfl,by have:=LB.out; omega,NU.out,HSu.out,MU.out⟩
 case round =>
  clear HSu LB NU MU
  obtain ⟨i,rfl,hlb,hnu,hsc,hmu⟩:=hrel
  rename World=>wl
  have LB:=Lib.hid hlb
  have NU:=Lib.hid hnu
  have MU:=Lib.hid hmu
  have SC:=Lib.hid hsc
  clear hlb hnu hmu hsc
  obtain ⟨c,hc⟩:∃ c,(decide (i≤j0) && pru l.toArray[i]!)=c:=⟨_,rfl⟩
  have HC:=Lib.hid hc
  clear hc
  go_upto_region 3 with fail
  go_cut [43] from 30 to 45 (fun s wx=>s=.bool c∧Nums wx g l∧Mut (fun k=>k=g) w wx)
  case first =>
   by_cases hij:i≤j0
   ·have dij:decide ((i:Int)≤(j0:Int))=true:=by simp; omega
    have hin:i < n:=by have:=LB.out; omega
    obtain ⟨x,hvi⟩:∃ x,at0 l i=x:=⟨_,rfl⟩
    refine beginL (S:=fun W'=>Ext wl W') (by kernel_rfl) ?_
    intro wd hqx
    have hq0:Ext wl wd:=hqx
    refine tLp 0 ((.int .i64 (i:Int))) rfl hq0 ?_
    simp only [ps]
    refine tLp 1 ((.int .i64 (j0:Int))) rfl hq0 ?_
    simp only [ps]
    refine tL 2 ((.bool true)) rfl (Or.inl ⟨rfl,fun W' _=>by go_simp⟩) hq0 ?_
    simp only [ps]
    refine tLp 3 ((.bool true)) rfl hq0 ?_
    simp only [ps]
    refine tLp 4 ((.slice (some ⟨g,0,none⟩) n cap)) rfl hq0 ?_
    simp only [ps]
    refine tLp 5 ((.int .i64 (i:Int))) rfl hq0 ?_
    simp only [ps]
    refine tL 6 ((.pointer (some ⟨g,i,none⟩))) rfl (Or.inl ⟨rfl,fun W' _=>by go_simp <;> (intro h; omega)⟩) hq0 ?_
    simp only [ps]
    refine tL 7 (_) rfl (yieldsIf_cell rfl 3 _ rfl ⟨g,i,none⟩ rfl (.int .i64 x) _ (fun W' hW'=>(show W'.cell? ⟨g,i,none⟩=_ from (NU.out.ext hW').cell (by omega)).trans (by rw [hvi])) Try.underlying3 rfl) hq0 ?_
    simp only [ps]
    refine tLp 8 ((.slice (some ⟨g,0,none⟩) n cap)) rfl hq0 ?_
    simp only [ps]
    refine tLp 9 ((.int .i64 (a:Int))) rfl hq0 ?_
    simp only [ps]
    refine tL 10 ((.pointer (some ⟨g,a,none⟩))) rfl (Or.inl ⟨rfl,fun W' _=>by go_simp <;> (intro h; omega)⟩) hq0 ?_
    simp only [ps]
    refine tL 11 (_) rfl (yieldsIf_cell rfl 3 _ rfl ⟨g,a,none⟩ rfl (.int .i64 v) _ (fun W' hW'=>(show W'.cell? ⟨g,a,none⟩=_ from (NU.out.ext hW').cell (by omega)).trans (by rw [hva])) Try.underlying3 rfl) hq0 ?_
    simp only [ps]
    refine runG (i:=12) rfl (by rfl) (by kernel_rfl) (fun K hK=>?_)
    go_simp
    refine (less_ext x v _).mono ?_
    rintro e wc1 ⟨rfl,hx⟩
    have hq1:=hq0.trans hx
    refine hK.out _ _ hq1 (fun hHeld=>?_)
    try simp only [ps]
    clear hK K hHeld
    refine tLp 13 ((.bool (decide (x < v)))) rfl hq1 ?_
    simp only [ps]
    refine wpAnyH_done (by kernel_rfl) ?_ _
    have NU2:=Lib.hid (NU.out.ext hq1)
    have MU2:=Lib.hid (MU.out.trans (hq1.mut (fun k=>k=g)))
    clear hq0 hqx hq1
    generalize hwn0:wc1=w5 at *
    go_wp2_with fail
    go_meet
    exact ⟨congrArg Value.bool (by rw [← HC.out,decide_eq_true hij,PRu.out,arr_at l (by omega),hvi]; rfl),NU2.out,MU2.out⟩
   ·have dij:decide ((i:Int)≤(j0:Int))=false:=by simp; omega
    refine beginL (S:=fun W'=>Ext wl W') (by kernel_rfl) ?_
    intro wd hqx
    have hq0:Ext wl wd:=hqx
    refine tLp 0 ((.int .i64 (i:Int))) rfl hq0 ?_
    simp only [ps]
    refine tLp 1 ((.int .i64 (j0:Int))) rfl hq0 ?_
    simp only [ps]
    refine tL 2 ((.bool false)) rfl (Or.inl ⟨rfl,fun W' _=>by go_simp⟩) hq0 ?_
    simp only [ps]
    refine tLp 3 ((.bool false)) rfl hq0 ?_
    simp only [ps]
    refine tL 4 (undef) rfl (Or.inr ⟨rfl,rfl⟩) hq0 ?_
    simp only [ps]
    refine tL 5 (undef) rfl (Or.inr ⟨rfl,rfl⟩) hq0 ?_
    simp only [ps]
    refine tL 6 (undef) rfl (Or.inr ⟨rfl,rfl⟩) hq0 ?_
    simp only [ps]
    refine tL 7 (undef) rfl (Or.inr ⟨rfl,rfl⟩) hq0 ?_
    simp only [ps]
    refine tL 8 (undef) rfl (Or.inr ⟨rfl,rfl⟩) hq0 ?_
    simp only [ps]
    refine tL 9 (undef) rfl (Or.inr ⟨rfl,rfl⟩) hq0 ?_
    simp only [ps]
    refine tL 10 (undef) rfl (Or.inr ⟨rfl,rfl⟩) hq0 ?_
    simp only [ps]
    refine tL 11 (undef) rfl (Or.inr ⟨rfl,rfl⟩) hq0 ?_
    simp only [ps]
    refine tL 12 (undef) rfl (Or.inr ⟨rfl,rfl⟩) hq0 ?_
    simp only [ps]
    refine tLp 13 ((.bool false)) rfl hq0 ?_
    simp only [ps]
    refine wpAnyH_done (by kernel_rfl) ?_ _
    have NU2:=Lib.hid (NU.out.ext hq0)
    have MU2:=Lib.hid (MU.out.trans (hq0.mut (fun k=>k=g)))
    clear hq0 hqx
    generalize hwn0:wd=w5 at *
    go_wp2_with fail
    go_meet
    exact ⟨congrArg Value.bool (by rw [← HC.out,decide_eq_false hij]; rfl),NU2.out,MU2.out⟩
  case rest =>
   obtain ⟨rfl,hnu,hmu⟩:=hcut
   have NU2:=Lib.hid hnu
   have MU2:=Lib.hid hmu
   clear hnu hmu NU MU
   rename World=>wx
   cases c with
   | true =>
    have hij:i≤j0:=by
     have:=HC.out
     rw [Bool.and_eq_true,decide_eq_true_eq] at this
     exact this.1
    have SC2:=Lib.hid (show Go.Sort.scanUp pru l.toArray j0 (i+1)=IJu from by rw [← SC.out]; exact (sup_go _ _ _ _ HC.out).symm)
    obtain ⟨i1,hv1⟩:∃ i1,i+1=i1:=⟨_,rfl⟩
    rw [hv1] at SC2
    have LB2:=Lib.hid (show (a1≤i1∧i1≤j0+2∧j0 < n)∧i < i1 from by have:=LB.out; have:=HA1.out; omega)
    have hup:IntKind.i64.wrap ((i:Int)+1)=(i1:Int):=by have:=LB.out; have:=HA1.out; rw [IntKind.wrap_i64]; omega
    clear hv1
    go_wp2_with fail
    go_roundw
    case rel=>exact ⟨i1,rfl,LB2.out.1,NU2.out,SC2.out,MU2.out⟩
    case measure=>have:=LB.out; have:=LB2.out; simp [intOf] <;> omega
   | false =>
    have HEu:=Lib.hid (show IJu=i from SC.out.symm.trans (sup_stop _ _ _ _ HC.out))
    have NU:=NU2
    have MU:=MU2
    clear SC HC NU2 MU2
    have HSd:=Lib.hid (show Go.Sort.scanDown prd l.toArray i j0=IJd from by rw [← HEu.out]; exact HSd.out)
    have LB:=Lib.hid (show a1≤i∧i≤j0+2∧j0 < n∧j0≤j0 from by have:=LB.out; omega)
    go_wp2_with fail
    go_loopw [11] (fun s wr=>∃ j:Nat,s=.int .i64 j∧(a1≤i∧i≤j+2∧j < n∧j≤j0)∧Nums wr g l∧Go.Sort.scanDown prd l.toArray i j=IJd∧Mut (fun k=>k=g) w wr) (fun s _=>(intOf s).toNat)
    case atStart=>exact ⟨j0,rfl,by have:=LB.out; omega,NU.out,HSd.out,MU.out⟩
    case round =>
     clear HSd LB NU MU
     obtain ⟨j,rfl,hlb,hnu,hsc,hmu⟩:=hrel
     rename World=>wl
     have LB:=Lib.hid hlb
     have NU:=Lib.hid hnu
     have MU:=Lib.hid hmu
     have SC:=Lib.hid hsc
     clear hlb hnu hmu hsc
     obtain ⟨c,hc⟩:∃ c,(decide (i≤j) && prd l.toArray[j]!)=c:=⟨_,rfl⟩
     have HC:=Lib.hid hc
     clear hc
     go_upto_region 5 with fail
     go_cut [60] from 46 to 62 (fun s wx=>s=.bool c∧Nums wx g l∧Mut (fun k=>k=g) w wx)
     case first =>
      by_cases hij:i≤j
      ·have dij:decide ((i:Int)≤(j:Int))=true:=by simp; omega
       have hin:j < n:=by have:=LB.out; omega
       obtain ⟨x,hvj⟩:∃ x,at0 l j=x:=⟨_,rfl⟩
       refine beginL (S:=fun W'=>Ext wl W') (by kernel_rfl) ?_
       intro wd hqx
       have hq0:Ext wl wd:=hqx
       refine tLp 0 ((.int .i64 (i:Int))) rfl hq0 ?_
       simp only [ps]
       refine tLp 1 ((.int .i64 (j:Int))) rfl hq0 ?_
       simp only [ps]
       refine tL 2 ((.bool true)) rfl (Or.inl ⟨rfl,fun W' _=>by go_simp⟩) hq0 ?_
       simp only [ps]
       refine tLp 3 ((.bool true)) rfl hq0 ?_
       simp only [ps]
       refine tLp 4 ((.slice (some ⟨g,0,none⟩) n cap)) rfl hq0 ?_
       simp only [ps]
       refine tLp 5 ((.int .i64 (j:Int))) rfl hq0 ?_
       simp only [ps]
       refine tL 6 ((.pointer (some ⟨g,j,none⟩))) rfl (Or.inl ⟨rfl,fun W' _=>by go_simp <;> (intro h; omega)⟩) hq0 ?_
       simp only [ps]
       refine tL 7 (_) rfl (yieldsIf_cell rfl 3 _ rfl ⟨g,j,none⟩ rfl (.int .i64 x) _ (fun W' hW'=>(show W'.cell? ⟨g,j,none⟩=_ from (NU.out.ext hW').cell (by omega)).trans (by rw [hvj])) Try.underlying3 rfl) hq0 ?_
       simp only [ps]
       refine tLp 8 ((.slice (some ⟨g,0,none⟩) n cap)) rfl hq0 ?_
       simp only [ps]
       refine tLp 9 ((.int .i64 (a:Int))) rfl hq0 ?_
       simp only [ps]
       refine tL 10 ((.pointer (some ⟨g,a,none⟩))) rfl (Or.inl ⟨rfl,fun W' _=>by go_simp <;> (intro h; omega)⟩) hq0 ?_
       simp only [ps]
       refine tL 11 (_) rfl (yieldsIf_cell rfl 3 _ rfl ⟨g,a,none⟩ rfl (.int .i64 v) _ (fun W' hW'=>(show W'.cell? ⟨g,a,none⟩=_ from (NU.out.ext hW').cell (by omega)).trans (by rw [hva])) Try.underlying3 rfl) hq0 ?_
       simp only [ps]
       refine runG (i:=12) rfl (by rfl) (by kernel_rfl) (fun K hK=>?_)
       go_simp
       refine (less_ext x v _).mono ?_
       rintro e wc1 ⟨rfl,hx⟩
       have hq1:=hq0.trans hx
       refine hK.out _ _ hq1 (fun hHeld=>?_)
       try simp only [ps]
       clear hK K hHeld
       refine tL 13 ((.bool (!(decide (x < v))))) rfl (Or.inl ⟨rfl,fun W' _=>by go_simp⟩) hq1 ?_
       simp only [ps]
       refine tLp 14 ((.bool (!(decide (x < v))))) rfl hq1 ?_
       simp only [ps]
       refine wpAnyH_done (by kernel_rfl) ?_ _
       have NU2:=Lib.hid (NU.out.ext hq1)
       have MU2:=Lib.hid (MU.out.trans (hq1.mut (fun k=>k=g)))
       clear hq0 hqx hq1
       generalize hwn0:wc1=w5 at *
       go_wp2_with fail
       go_meet
       exact ⟨congrArg Value.bool (by rw [← HC.out,decide_eq_true hij,PRd.out,arr_at l (by omega),hvj]; rfl),NU2.out,MU2.out⟩
      ·have dij:decide ((i:Int)≤(j:Int))=false:=by simp; omega
       refine beginL (S:=fun W'=>Ext wl W') (by kernel_rfl) ?_
       intro wd hqx
       have hq0:Ext wl wd:=hqx
       refine tLp 0 ((.int .i64 (i:Int))) rfl hq0 ?_
       simp only [ps]
       refine tLp 1 ((.int .i64 (j:Int))) rfl hq0 ?_
       simp only [ps]
       refine tL 2 ((.bool false)) rfl (Or.inl ⟨rfl,fun W' _=>by go_simp⟩) hq0 ?_
       simp only [ps]
       refine tLp 3 ((.bool false)) rfl hq0 ?_
       simp only [ps]
       refine tL 4 (undef) rfl (Or.inr ⟨rfl,rfl⟩) hq0 ?_
       simp only [ps]
       refine tL 5 (undef) rfl (Or.inr ⟨rfl,rfl⟩) hq0 ?_
       simp only [ps]
       refine tL 6 (undef) rfl (Or.inr ⟨rfl,rfl⟩) hq0 ?_
       simp only [ps]
       refine tL 7 (undef) rfl (Or.inr ⟨rfl,rfl⟩) hq0 ?_
       simp only [ps]
       refine tL 8 (undef) rfl (Or.inr ⟨rfl,rfl⟩) hq0 ?_
       simp only [ps]
       refine tL 9 (undef) rfl (Or.inr ⟨rfl,rfl⟩) hq0 ?_
       simp only [ps]
       refine tL 10 (undef) rfl (Or.inr ⟨rfl,rfl⟩) hq0 ?_
       simp only [ps]
       refine tL 11 (undef) rfl (Or.inr ⟨rfl,rfl⟩) hq0 ?_
       simp only [ps]
       refine tL 12 (undef) rfl (Or.inr ⟨rfl,rfl⟩) hq0 ?_
       simp only [ps]
       refine tL 13 (undef) rfl (Or.inr ⟨rfl,rfl⟩) hq0 ?_
       simp only [ps]
       refine tLp 14 ((.bool false)) rfl hq0 ?_
       simp only [ps]
       refine wpAnyH_done (by kernel_rfl) ?_ _
       have NU2:=Lib.hid (NU.out.ext hq0)
       have MU2:=Lib.hid (MU.out.trans (hq0.mut (fun k=>k=g)))
       clear hq0 hqx
       generalize hwn0:wd=w5 at *
       go_wp2_with fail
       go_meet
       exact ⟨congrArg Value.bool (by rw [← HC.out,decide_eq_false hij]; rfl),NU2.out,MU2.out⟩
     case rest =>
      obtain ⟨rfl,hnu,hmu⟩:=hcut
      have NU2:=Lib.hid hnu
      have MU2:=Lib.hid hmu
      clear hnu hmu NU MU
      rename World=>wx
      cases c with
      | true =>
       have hij:i≤j:=by
        have:=HC.out
        rw [Bool.and_eq_true,decide_eq_true_eq] at this
        exact this.1
       have SC2:=Lib.hid (show Go.Sort.scanDown prd l.toArray i (j - 1)=IJd from by rw [← SC.out]; exact (sdn_go _ _ _ _ HC.out).symm)
       obtain ⟨j1,hv1⟩:∃ j1,j - 1=j1:=⟨_,rfl⟩
       rw [hv1] at SC2
       have LB2:=Lib.hid (show (a1≤i∧i≤j1+2∧j1 < n∧j1≤j0)∧j1 < j from by have:=LB.out; have:=HA1.out; omega)
       have hup:IntKind.i64.wrap ((j:Int) - 1)=(j1:Int):=by have:=LB.out; have:=HA1.out; rw [IntKind.wrap_i64]; omega
       clear hv1
       go_wp2_with fail
       go_roundw
       case rel=>exact ⟨j1,rfl,LB2.out.1,NU2.out,SC2.out,MU2.out⟩
       case measure=>have:=LB.out; have:=LB2.out; simp [intOf] <;> omega
      | false =>
       have HEd:=Lib.hid (show IJd=j from SC.out.symm.trans (sdn_stop _ _ _ _ HC.out))
       have NU:=NU2
       have MU:=MU2
       clear SC HC NU2 MU2
       by_cases hgt:i > j
       ·have hjn:j < n:=by have:=LB.out; omega
        have dgt:decide ((i:Int) > (j:Int))=true:=by simp; omega
        have dgt2:decide ((j:Int) < (i:Int))=true:=by simp; omega
        go_wp2_with fail
        obtain ⟨x,hvp⟩:∃ x,at0 l j=x:=⟨_,rfl⟩
        obtain ⟨y,hvq⟩:∃ y,at0 l a=y:=⟨_,rfl⟩
        refine beginZ (S:=fun W'=>Ext wx W') 13 (by kernel_rfl) ?_
        intro wd hqx
        have hq0:Ext wx wd:=hqx
        refine takeY (i:=0) (z:=13) (v:=(.slice (some ⟨g,0,none⟩) n cap)) rfl (by kernel_rfl) (by kernel_rfl) (by kernel_rfl) (by kernel_rfl) (fun _ _ _ h=>h) (Or.inl ⟨rfl,fun _ _=>rfl⟩) hq0 ?_
        simp only [ps]
        refine takeY (i:=1) (z:=13) (v:=(.int .i64 (j:Int))) rfl (by kernel_rfl) (by kernel_rfl) (by kernel_rfl) (by kernel_rfl) (fun _ _ _ h=>h) (Or.inl ⟨rfl,fun _ _=>rfl⟩) hq0 ?_
        simp only [ps]
        refine takeY (i:=2) (z:=13) (v:=(.slice (some ⟨g,0,none⟩) n cap)) rfl (by kernel_rfl) (by kernel_rfl) (by kernel_rfl) (by kernel_rfl) (fun _ _ _ h=>h) (Or.inl ⟨rfl,fun _ _=>rfl⟩) hq0 ?_
        simp only [ps]
        refine takeY (i:=3) (z:=13) (v:=(.int .i64 (a:Int))) rfl (by kernel_rfl) (by kernel_rfl) (by kernel_rfl) (by kernel_rfl) (fun _ _ _ h=>h) (Or.inl ⟨rfl,fun _ _=>rfl⟩) hq0 ?_
        simp only [ps]
        refine takeY (i:=4) (z:=13) (v:=(.slice (some ⟨g,0,none⟩) n cap)) rfl (by kernel_rfl) (by kernel_rfl) (by kernel_rfl) (by kernel_rfl) (fun _ _ _ h=>h) (Or.inl ⟨rfl,fun _ _=>rfl⟩) hq0 ?_
        simp only [ps]
        refine takeY (i:=5) (z:=13) (v:=(.int .i64 (a:Int))) rfl (by kernel_rfl) (by kernel_rfl) (by kernel_rfl) (by kernel_rfl) (fun _ _ _ h=>h) (Or.inl ⟨rfl,fun _ _=>rfl⟩) hq0 ?_
        simp only [ps]
        refine takeY (i:=6) (z:=13) (v:=(.pointer (some ⟨g,a,none⟩))) rfl (by kernel_rfl) (by kernel_rfl) (by kernel_rfl) (by kernel_rfl) (fun _ _ _ h=>h) (Or.inl ⟨rfl,fun W' _=>by go_simp <;> (intro h; omega)⟩) hq0 ?_
        simp only [ps]
        refine takeZ (i:=7) (z:=13) (v:=_) rfl rfl (by kernel_rfl) (by kernel_rfl) (by kernel_rfl) (by kernel_rfl) (by kernel_rfl) (by kernel_rfl) (fun _ _ _ h=>h) (yieldsIf_cell rfl 3 _ rfl ⟨g,a,none⟩ rfl (.int .i64 y) _ (fun W' hW'=>(show W'.cell? ⟨g,a,none⟩=_ from (NU.out.ext hW').cell (by omega)).trans (by rw [hvq])) Try.underlying3 rfl) hq0 ?_
        simp only [ps]
        refine takeY (i:=8) (z:=13) (v:=(.slice (some ⟨g,0,none⟩) n cap)) rfl (by kernel_rfl) (by kernel_rfl) (by kernel_rfl) (by kernel_rfl) (fun _ _ _ h=>h) (Or.inl ⟨rfl,fun _ _=>rfl⟩) hq0 ?_
        simp only [ps]
        refine takeY (i:=9) (z:=13) (v:=(.int .i64 (j:Int))) rfl (by kernel_rfl) (by kernel_rfl) (by kernel_rfl) (by kernel_rfl) (fun _ _ _ h=>h) (Or.inl ⟨rfl,fun _ _=>rfl⟩) hq0 ?_
        simp only [ps]
        refine takeY (i:=10) (z:=13) (v:=(.pointer (some ⟨g,j,none⟩))) rfl (by kernel_rfl) (by kernel_rfl) (by kernel_rfl) (by kernel_rfl) (fun _ _ _ h=>h) (Or.inl ⟨rfl,fun W' _=>by go_simp <;> (intro h; omega)⟩) hq0 ?_
        simp only [ps]
        refine takeZ (i:=11) (z:=13) (v:=_) rfl rfl (by kernel_rfl) (by kernel_rfl) (by kernel_rfl) (by kernel_rfl) (by kernel_rfl) (by kernel_rfl) (fun _ _ _ h=>h) (yieldsIf_cell rfl 3 _ rfl ⟨g,j,none⟩ rfl (.int .i64 x) _ (fun W' hW'=>(show W'.cell? ⟨g,j,none⟩=_ from (NU.out.ext hW').cell (by omega)).trans (by rw [hvp])) Try.underlying3 rfl) hq0 ?_
        simp only [ps]
        refine takeY (i:=12) (z:=13) (v:=(.pointer (some ⟨g,j,none⟩))) rfl (by kernel_rfl) (by kernel_rfl) (by kernel_rfl) (by kernel_rfl) (fun _ _ _ h=>h) (Or.inl ⟨rfl,fun W' _=>by go_simp <;> (intro h; omega)⟩) hq0 ?_
        simp only [ps]
        refine runZl (z:=13) rfl rfl (by kernel_rfl) (fun K hK=>?_)
        have hce:=(NU.out.ext hq0)
        have hc1:wd.cell? ⟨g,j,none⟩=some (.int .i64 (at0 l (j))):=hce.cell (by omega)
        have hf1:=hce.froz (j)
        go_simp
        refine hK.out _ _ ?_
        try simp only [ps]
        clear hK K hc1 hf1
        have hce2:=hce.set (p:=j) (by omega) (at0 l (a))
        rw [hvq] at hce2
        have hq9:=(hq0.mut (fun k=>k=g)).setCell (p:=⟨g,j,none⟩) (.inl rfl) (.int .i64 y)
        refine tL 14 ((.pointer (some ⟨g,a,none⟩))) rfl (Or.inl ⟨rfl,fun W' _=>by go_simp <;> (intro h; omega)⟩) trivial ?_
        simp only [ps]
        refine runL (i:=15) rfl rfl (by kernel_rfl) (fun K hK=>?_)
        have hc2:(wd.setCell ⟨g,j,none⟩ (.int .i64 y)).cell? ⟨g,a,none⟩=some (.int .i64 (at0 (l.set (j) y) (a))):=hce2.cell (by simp; omega)
        have hf2:=hce2.froz (a)
        go_simp
        refine hK.out _ _ trivial (fun _=>?_)
        try simp only [ps]
        clear hK K hc2 hf2
        refine wpAnyH_done (by kernel_rfl) ?_ _
        have hce3:=hce2.set (p:=a) (by simp; omega) (at0 l (j))
        rw [hvp] at hce3
        have NU3:=Lib.hid (show Nums _ g (swl l (j) (a)) from by unfold swl; rw [hvp,hvq]; exact hce3)
        have MU3:=Lib.hid (hq9.setCell (p:=⟨g,a,none⟩) (.inl rfl) (.int .i64 x))
        clear hce hce2 hce3 hq9 hq0 hqx
        generalize (wd.setCell ⟨g,j,none⟩ (.int .i64 y)).setCell ⟨g,a,none⟩ (.int .i64 x)=wm at *
        clear hvp hvq
        go_wp2_with fail
        go_ret2
        refine ⟨j,true,(swl l j a).toArray,rfl,?_,swl l j a,NU3.out,by rw [swl_len]; exact hln,rfl,MU.out.trans MU3.out⟩
        have h1:=EQ.out
        rw [HEu.out,HEd.out,if_pos hgt] at h1
        rw [h1,swl_arr l (by omega) (by omega)]
       ·have hjn:j < n:=by have:=LB.out; omega
        have dgt:decide ((i:Int) > (j:Int))=false:=by simp; omega
        have dgt2:decide ((j:Int) < (i:Int))=false:=by simp; omega
        obtain ⟨R,EQ2⟩:∃ R,Go.Sort.partLoop ltI a (i+1) (j - 1) (swl l i j).toArray=R:=⟨_,rfl⟩
        have PQ:=Lib.hid (show Go.Sort.partition ltI l0.toArray a b pv=(R.1,false,Go.Sort.swp R.2 R.1 a) from by
         have h1:=EQ.out
         rw [HEu.out,HEd.out,if_neg hgt,← swl_arr l (by omega) (by omega),EQ2] at h1
         exact h1)
        obtain ⟨i1,hi1⟩:∃ i1,i+1=i1:=⟨_,rfl⟩
        obtain ⟨j1,hj1⟩:∃ j1,j - 1=j1:=⟨_,rfl⟩
        have hup:IntKind.i64.wrap ((i:Int)+1)=(i1:Int):=by have:=LB.out; rw [IntKind.wrap_i64]; omega
        have hdn:IntKind.i64.wrap ((j:Int) - 1)=(j1:Int):=by have:=LB.out; have:=HA1.out; rw [IntKind.wrap_i64]; omega
        have LB2:=Lib.hid (show (a1≤i1∧i1≤j1+2∧j1 < n)∧j1 < j0 from by have:=LB.out; have:=HA1.out; omega)
        rw [hi1,hj1] at EQ2
        clear hi1 hj1
        have EQ3:=Lib.hid EQ2
        clear EQ2
        go_wp2_with fail
        obtain ⟨x,hvp⟩:∃ x,at0 l i=x:=⟨_,rfl⟩
        obtain ⟨y,hvq⟩:∃ y,at0 l j=y:=⟨_,rfl⟩
        refine beginZ (S:=fun W'=>Ext wx W') 13 (by kernel_rfl) ?_
        intro wd hqx
        have hq0:Ext wx wd:=hqx
        refine takeY (i:=0) (z:=13) (v:=(.slice (some ⟨g,0,none⟩) n cap)) rfl (by kernel_rfl) (by kernel_rfl) (by kernel_rfl) (by kernel_rfl) (fun _ _ _ h=>h) (Or.inl ⟨rfl,fun _ _=>rfl⟩) hq0 ?_
        simp only [ps]
        refine takeY (i:=1) (z:=13) (v:=(.int .i64 (i:Int))) rfl (by kernel_rfl) (by kernel_rfl) (by kernel_rfl) (by kernel_rfl) (fun _ _ _ h=>h) (Or.inl ⟨rfl,fun _ _=>rfl⟩) hq0 ?_
        simp only [ps]
        refine takeY (i:=2) (z:=13) (v:=(.slice (some ⟨g,0,none⟩) n cap)) rfl (by kernel_rfl) (by kernel_rfl) (by kernel_rfl) (by kernel_rfl) (fun _ _ _ h=>h) (Or.inl ⟨rfl,fun _ _=>rfl⟩) hq0 ?_
        simp only [ps]
        refine takeY (i:=3) (z:=13) (v:=(.int .i64 (j:Int))) rfl (by kernel_rfl) (by kernel_rfl) (by kernel_rfl) (by kernel_rfl) (fun _ _ _ h=>h) (Or.inl ⟨rfl,fun _ _=>rfl⟩) hq0 ?_
        simp only [ps]
        refine takeY (i:=4) (z:=13) (v:=(.slice (some ⟨g,0,none⟩) n cap)) rfl (by kernel_rfl) (by kernel_rfl) (by kernel_rfl) (by kernel_rfl) (fun _ _ _ h=>h) (Or.inl ⟨rfl,fun _ _=>rfl⟩) hq0 ?_
        simp only [ps]
        refine takeY (i:=5) (z:=13) (v:=(.int .i64 (j:Int))) rfl (by kernel_rfl) (by kernel_rfl) (by kernel_rfl) (by kernel_rfl) (fun _ _ _ h=>h) (Or.inl ⟨rfl,fun _ _=>rfl⟩) hq0 ?_
        simp only [ps]
        refine takeY (i:=6) (z:=13) (v:=(.pointer (some ⟨g,j,none⟩))) rfl (by kernel_rfl) (by kernel_rfl) (by kernel_rfl) (by kernel_rfl) (fun _ _ _ h=>h) (Or.inl ⟨rfl,fun W' _=>by go_simp <;> (intro h; omega)⟩) hq0 ?_
        simp only [ps]
        refine takeZ (i:=7) (z:=13) (v:=_) rfl rfl (by kernel_rfl) (by kernel_rfl) (by kernel_rfl) (by kernel_rfl) (by kernel_rfl) (by kernel_rfl) (fun _ _ _ h=>h) (yieldsIf_cell rfl 3 _ rfl ⟨g,j,none⟩ rfl (.int .i64 y) _ (fun W' hW'=>(show W'.cell? ⟨g,j,none⟩=_ from (NU.out.ext hW').cell (by omega)).trans (by rw [hvq])) Try.underlying3 rfl) hq0 ?_
        simp only [ps]
        refine takeY (i:=8) (z:=13) (v:=(.slice (some ⟨g,0,none⟩) n cap)) rfl (by kernel_rfl) (by kernel_rfl) (by kernel_rfl) (by kernel_rfl) (fun _ _ _ h=>h) (Or.inl ⟨rfl,fun _ _=>rfl⟩) hq0 ?_
        simp only [ps]
        refine takeY (i:=9) (z:=13) (v:=(.int .i64 (i:Int))) rfl (by kernel_rfl) (by kernel_rfl) (by kernel_rfl) (by kernel_rfl) (fun _ _ _ h=>h) (Or.inl ⟨rfl,fun _ _=>rfl⟩) hq0 ?_
        simp only [ps]
        refine takeY (i:=10) (z:=13) (v:=(.pointer (some ⟨g,i,none⟩))) rfl (by kernel_rfl) (by kernel_rfl) (by kernel_rfl) (by kernel_rfl) (fun _ _ _ h=>h) (Or.inl ⟨rfl,fun W' _=>by go_simp <;> (intro h; omega)⟩) hq0 ?_
        simp only [ps]
        refine takeZ (i:=11) (z:=13) (v:=_) rfl rfl (by kernel_rfl) (by kernel_rfl) (by kernel_rfl) (by kernel_rfl) (by kernel_rfl) (by kernel_rfl) (fun _ _ _ h=>h) (yieldsIf_cell rfl 3 _ rfl ⟨g,i,none⟩ rfl (.int .i64 x) _ (fun W' hW'=>(show W'.cell? ⟨g,i,none⟩=_ from (NU.out.ext hW').cell (by omega)).trans (by rw [hvp])) Try.underlying3 rfl) hq0 ?_
        simp only [ps]
        refine takeY (i:=12) (z:=13) (v:=(.pointer (some ⟨g,i,none⟩))) rfl (by kernel_rfl) (by kernel_rfl) (by kernel_rfl) (by kernel_rfl) (fun _ _ _ h=>h) (Or.inl ⟨rfl,fun W' _=>by go_simp <;> (intro h; omega)⟩) hq0 ?_
        simp only [ps]
        refine runZl (z:=13) rfl rfl (by kernel_rfl) (fun K hK=>?_)
        have hce:=(NU.out.ext hq0)
        have hc1:wd.cell? ⟨g,i,none⟩=some (.int .i64 (at0 l (i))):=hce.cell (by omega)
        have hf1:=hce.froz (i)
        go_simp
        refine hK.out _ _ ?_
        try simp only [ps]
        clear hK K hc1 hf1
        have hce2:=hce.set (p:=i) (by omega) (at0 l (j))
        rw [hvq] at hce2
        have hq9:=(hq0.mut (fun k=>k=g)).setCell (p:=⟨g,i,none⟩) (.inl rfl) (.int .i64 y)
        refine tL 14 ((.pointer (some ⟨g,j,none⟩))) rfl (Or.inl ⟨rfl,fun W' _=>by go_simp <;> (intro h; omega)⟩) trivial ?_
        simp only [ps]
        refine runL (i:=15) rfl rfl (by kernel_rfl) (fun K hK=>?_)
        have hc2:(wd.setCell ⟨g,i,none⟩ (.int .i64 y)).cell? ⟨g,j,none⟩=some (.int .i64 (at0 (l.set (i) y) (j))):=hce2.cell (by simp; omega)
        have hf2:=hce2.froz (j)
        go_simp
        refine hK.out _ _ trivial (fun _=>?_)
        try simp only [ps]
        clear hK K hc2 hf2
        refine wpAnyH_done (by kernel_rfl) ?_ _
        have hce3:=hce2.set (p:=j) (by simp; omega) (at0 l (i))
        rw [hvp] at hce3
        have NU3:=Lib.hid (show Nums _ g (swl l (i) (j)) from by unfold swl; rw [hvp,hvq]; exact hce3)
        have MU3:=Lib.hid (hq9.setCell (p:=⟨g,j,none⟩) (.inl rfl) (.int .i64 x))
        clear hce hce2 hce3 hq9 hq0 hqx
        generalize (wd.setCell ⟨g,i,none⟩ (.int .i64 y)).setCell ⟨g,j,none⟩ (.int .i64 x)=wm at *
        clear hvp hvq
        go_wp2_with fail
        go_loopw [10,11] (fun s t wr=>∃ (i0 j0:Nat) (l:List Int),s=.int .i64 i0∧t=.int .i64 j0∧(a1≤i0∧i0≤j0+2∧j0 < n)∧Nums wr g l∧l.length=n∧Go.Sort.partLoop ltI a i0 j0 l.toArray=R∧Mut (fun k=>k=g) w wr) (fun _ t _=>(intOf t).toNat)
        case atStart=>exact ⟨i1,j1,swl l i j,rfl,rfl,LB2.out.1,NU3.out,by rw [swl_len]; exact hln,EQ3.out,MU.out.trans MU3.out⟩
        case round =>
         clear EQ3 NU3 MU3 MU LB LB2 EQ HEu HEd PRu PRd hln hva hup hdn NU
         obtain ⟨i0,j0,l,rfl,rfl,hlb,hnu,hln,hpl,hmu⟩:=hrel
         rename World=>wl
         have LB:=Lib.hid hlb
         have NU:=Lib.hid hnu
         have MU:=Lib.hid hmu
         have HR:=Lib.hid hpl
         clear hlb hnu hmu hpl
         obtain ⟨v,hva⟩:∃ v,at0 l a=v:=⟨_,rfl⟩
         obtain ⟨pru,hpu⟩:∃ p,(fun x=>ltI x l.toArray[a]!)=p:=⟨_,rfl⟩
         obtain ⟨prd,hpd⟩:∃ p,(fun x=>!ltI x l.toArray[a]!)=p:=⟨_,rfl⟩
         obtain ⟨IJu,hsu⟩:∃ I,Go.Sort.scanUp pru l.toArray j0 i0=I:=⟨_,rfl⟩
         obtain ⟨IJd,hsd⟩:∃ J,Go.Sort.scanDown prd l.toArray IJu j0=J:=⟨_,rfl⟩
         have EQ:=Lib.hid (loop_split a i0 j0 l.toArray pru prd IJu IJd hpu hpd hsu hsd)
         have PRu:=Lib.hid (show ∀ x,pru x=ltI x v from fun x=>by rw [← hpu]; dsimp only; rw [arr_at l (by omega),hva])
         have PRd:=Lib.hid (show ∀ x,prd x=!ltI x v from fun x=>by rw [← hpd]; dsimp only; rw [arr_at l (by omega),hva])
         have HSu:=Lib.hid hsu
         have HSd:=Lib.hid hsd
         clear hpu hpd hsu hsd
         go_wp2_with fail
         go_loopw [10] (fun s wr=>∃ i:Nat,s=.int .i64 i∧(a1≤i∧i≤j0+2∧j0 < n)∧Nums wr g l∧Go.Sort.scanUp pru l.toArray j0 i=IJu∧Mut (fun k=>k=g) w wr) (fun s _=>n+3 - (intOf s).toNat)
         case atStart=>exact ⟨i0,rfl,by have:=LB.out; omega,NU.out,HSu.out,MU.out⟩
         case round =>
          clear HSu LB NU MU
          obtain ⟨i,rfl,hlb,hnu,hsc,hmu⟩:=hrel
          rename World=>wl
          have LB:=Lib.hid hlb
          have NU:=Lib.hid hnu
          have MU:=Lib.hid hmu
          have SC:=Lib.hid hsc
          clear hlb hnu hmu hsc
          obtain ⟨c,hc⟩:∃ c,(decide (i≤j0) && pru l.toArray[i]!)=c:=⟨_,rfl⟩
          have HC:=Lib.hid hc
          clear hc
          go_upto_region 13 with fail
          go_cut [112] from 99 to 114 (fun s wx=>s=.bool c∧Nums wx g l∧Mut (fun k=>k=g) w wx)
          case first =>
           by_cases hij:i≤j0
           ·have dij:decide ((i:Int)≤(j0:Int))=true:=by simp; omega
            have hin:i < n:=by have:=LB.out; omega
            obtain ⟨x,hvi⟩:∃ x,at0 l i=x:=⟨_,rfl⟩
            refine beginL (S:=fun W'=>Ext wl W') (by kernel_rfl) ?_
            intro wd hqx
            have hq0:Ext wl wd:=hqx
            refine tLp 0 ((.int .i64 (i:Int))) rfl hq0 ?_
            simp only [ps]
            refine tLp 1 ((.int .i64 (j0:Int))) rfl hq0 ?_
            simp only [ps]
            refine tL 2 ((.bool true)) rfl (Or.inl ⟨rfl,fun W' _=>by go_simp⟩) hq0 ?_
            simp only [ps]
            refine tLp 3 ((.bool true)) rfl hq0 ?_
            simp only [ps]
            refine tLp 4 ((.slice (some ⟨g,0,none⟩) n cap)) rfl hq0 ?_
            simp only [ps]
            refine tLp 5 ((.int .i64 (i:Int))) rfl hq0 ?_
            simp only [ps]
            refine tL 6 ((.pointer (some ⟨g,i,none⟩))) rfl (Or.inl ⟨rfl,fun W' _=>by go_simp <;> (intro h; omega)⟩) hq0 ?_
            simp only [ps]
            refine tL 7 (_) rfl (yieldsIf_cell rfl 3 _ rfl ⟨g,i,none⟩ rfl (.int .i64 x) _ (fun W' hW'=>(show W'.cell? ⟨g,i,none⟩=_ from (NU.out.ext hW').cell (by omega)).trans (by rw [hvi])) Try.underlying3 rfl) hq0 ?_
            simp only [ps]
            refine tLp 8 ((.slice (some ⟨g,0,none⟩) n cap)) rfl hq0 ?_
            simp only [ps]
            refine tLp 9 ((.int .i64 (a:Int))) rfl hq0 ?_
            simp only [ps]
            refine tL 10 ((.pointer (some ⟨g,a,none⟩))) rfl (Or.inl ⟨rfl,fun W' _=>by go_simp <;> (intro h; omega)⟩) hq0 ?_
            simp only [ps]
            refine tL 11 (_) rfl (yieldsIf_cell rfl 3 _ rfl ⟨g,a,none⟩ rfl (.int .i64 v) _ (fun W' hW'=>(show W'.cell? ⟨g,a,none⟩=_ from (NU.out.ext hW').cell (by omega)).trans (by rw [hva])) Try.underlying3 rfl) hq0 ?_
            simp only [ps]
            refine runG (i:=12) rfl (by rfl) (by kernel_rfl) (fun K hK=>?_)
            go_simp
            refine (less_ext x v _).mono ?_
            rintro e wc1 ⟨rfl,hx⟩
            have hq1:=hq0.trans hx
            refine hK.out _ _ hq1 (fun hHeld=>?_)
            try simp only [ps]
            clear hK K hHeld
            refine tLp 13 ((.bool (decide (x < v)))) rfl hq1 ?_
            simp only [ps]
            refine wpAnyH_done (by kernel_rfl) ?_ _
            have NU2:=Lib.hid (NU.out.ext hq1)
            have MU2:=Lib.hid (MU.out.trans (hq1.mut (fun k=>k=g)))
            clear hq0 hqx hq1
            generalize hwn0:wc1=w5 at *
            go_wp2_with fail
            go_meet
            exact ⟨congrArg Value.bool (by rw [← HC.out,decide_eq_true hij,PRu.out,arr_at l (by omega),hvi]; rfl),NU2.out,MU2.out⟩
           ·have dij:decide ((i:Int)≤(j0:Int))=false:=by simp; omega
            refine beginL (S:=fun W'=>Ext wl W') (by kernel_rfl) ?_
            intro wd hqx
            have hq0:Ext wl wd:=hqx
            refine tLp 0 ((.int .i64 (i:Int))) rfl hq0 ?_
            simp only [ps]
            refine tLp 1 ((.int .i64 (j0:Int))) rfl hq0 ?_
            simp only [ps]
            refine tL 2 ((.bool false)) rfl (Or.inl ⟨rfl,fun W' _=>by go_simp⟩) hq0 ?_
            simp only [ps]
            refine tLp 3 ((.bool false)) rfl hq0 ?_
            simp only [ps]
            refine tL 4 (undef) rfl (Or.inr ⟨rfl,rfl⟩) hq0 ?_
            simp only [ps]
            refine tL 5 (undef) rfl (Or.inr ⟨rfl,rfl⟩) hq0 ?_
            simp only [ps]
            refine tL 6 (undef) rfl (Or.inr ⟨rfl,rfl⟩) hq0 ?_
            simp only [ps]
            refine tL 7 (undef) rfl (Or.inr ⟨rfl,rfl⟩) hq0 ?_
            simp only [ps]
            refine tL 8 (undef) rfl (Or.inr ⟨rfl,rfl⟩) hq0 ?_
            simp only [ps]
            refine tL 9 (undef) rfl (Or.inr ⟨rfl,rfl⟩) hq0 ?_
            simp only [ps]
            refine tL 10 (undef) rfl (Or.inr ⟨rfl,rfl⟩) hq0 ?_
            simp only [ps]
            refine tL 11 (undef) rfl (Or.inr ⟨rfl,rfl⟩) hq0 ?_
            simp only [ps]
            refine tL 12 (undef) rfl (Or.inr ⟨rfl,rfl⟩) hq0 ?_
            simp only [ps]
            refine tLp 13 ((.bool false)) rfl hq0 ?_
            simp only [ps]
            refine wpAnyH_done (by kernel_rfl) ?_ _
            have NU2:=Lib.hid (NU.out.ext hq0)
            have MU2:=Lib.hid (MU.out.trans (hq0.mut (fun k=>k=g)))
            clear hq0 hqx
            generalize hwn0:wd=w5 at *
            go_wp2_with fail
            go_meet
            exact ⟨congrArg Value.bool (by rw [← HC.out,decide_eq_false hij]; rfl),NU2.out,MU2.out⟩
          case rest =>
           obtain ⟨rfl,hnu,hmu⟩:=hcut
           have NU2:=Lib.hid hnu
           have MU2:=Lib.hid hmu
           clear hnu hmu NU MU
           rename World=>wx
           cases c with
           | true =>
            have hij:i≤j0:=by
             have:=HC.out
             rw [Bool.and_eq_true,decide_eq_true_eq] at this
             exact this.1
            have SC2:=Lib.hid (show Go.Sort.scanUp pru l.toArray j0 (i+1)=IJu from by rw [← SC.out]; exact (sup_go _ _ _ _ HC.out).symm)
            obtain ⟨i1,hv1⟩:∃ i1,i+1=i1:=⟨_,rfl⟩
            rw [hv1] at SC2
            have LB2:=Lib.hid (show (a1≤i1∧i1≤j0+2∧j0 < n)∧i < i1 from by have:=LB.out; have:=HA1.out; omega)
            have hup:IntKind.i64.wrap ((i:Int)+1)=(i1:Int):=by have:=LB.out; have:=HA1.out; rw [IntKind.wrap_i64]; omega
            clear hv1
            go_wp2_with fail
            go_roundw
            case rel=>exact ⟨i1,rfl,LB2.out.1,NU2.out,SC2.out,MU2.out⟩
            case measure=>have:=LB.out; have:=LB2.out; simp [intOf] <;> omega
           | false =>
            have HEu:=Lib.hid (show IJu=i from SC.out.symm.trans (sup_stop _ _ _ _ HC.out))
            have NU:=NU2
            have MU:=MU2
            clear SC HC NU2 MU2
            have HSd:=Lib.hid (show Go.Sort.scanDown prd l.toArray i j0=IJd from by rw [← HEu.out]; exact HSd.out)
            have LB:=Lib.hid (show a1≤i∧i≤j0+2∧j0 < n∧j0≤j0 from by have:=LB.out; omega)
            go_wp2_with fail
            go_loopw [11] (fun s wr=>∃ j:Nat,s=.int .i64 j∧(a1≤i∧i≤j+2∧j < n∧j≤j0)∧Nums wr g l∧Go.Sort.scanDown prd l.toArray i j=IJd∧Mut (fun k=>k=g) w wr) (fun s _=>(intOf s).toNat)
            case atStart=>exact ⟨j0,rfl,by have:=LB.out; omega,NU.out,HSd.out,MU.out⟩
            case round =>
             clear HSd LB NU MU
             obtain ⟨j,rfl,hlb,hnu,hsc,hmu⟩:=hrel
             rename World=>wl
             have LB:=Lib.hid hlb
             have NU:=Lib.hid hnu
             have MU:=Lib.hid hmu
             have SC:=Lib.hid hsc
             clear hlb hnu hmu hsc
             obtain ⟨c,hc⟩:∃ c,(decide (i≤j) && prd l.toArray[j]!)=c:=⟨_,rfl⟩
             have HC:=Lib.hid hc
             clear hc
             go_upto_region 15 with fail
             go_cut [129] from 115 to 131 (fun s wx=>s=.bool c∧Nums wx g l∧Mut (fun k=>k=g) w wx)
             case first =>
              by_cases hij:i≤j
              ·have dij:decide ((i:Int)≤(j:Int))=true:=by simp; omega
               have hin:j < n:=by have:=LB.out; omega
               obtain ⟨x,hvj⟩:∃ x,at0 l j=x:=⟨_,rfl⟩
               refine beginL (S:=fun W'=>Ext wl W') (by kernel_rfl) ?_
               intro wd hqx
               have hq0:Ext wl wd:=hqx
               refine tLp 0 ((.int .i64 (i:Int))) rfl hq0 ?_
               simp only [ps]
               refine tLp 1 ((.int .i64 (j:Int))) rfl hq0 ?_
               simp only [ps]
               refine tL 2 ((.bool true)) rfl (Or.inl ⟨rfl,fun W' _=>by go_simp⟩) hq0 ?_
               simp only [ps]
               refine tLp 3 ((.bool true)) rfl hq0 ?_
               simp only [ps]
               refine tLp 4 ((.slice (some ⟨g,0,none⟩) n cap)) rfl hq0 ?_
               simp only [ps]
               refine tLp 5 ((.int .i64 (j:Int))) rfl hq0 ?_
               simp only [ps]
               refine tL 6 ((.pointer (some ⟨g,j,none⟩))) rfl (Or.inl ⟨rfl,fun W' _=>by go_simp <;> (intro h; omega)⟩) hq0 ?_
               simp only [ps]
               refine tL 7 (_) rfl (yieldsIf_cell rfl 3 _ rfl ⟨g,j,none⟩ rfl (.int .i64 x) _ (fun W' hW'=>(show W'.cell? ⟨g,j,none⟩=_ from (NU.out.ext hW').cell (by omega)).trans (by rw [hvj])) Try.underlying3 rfl) hq0 ?_
               simp only [ps]
               refine tLp 8 ((.slice (some ⟨g,0,none⟩) n cap)) rfl hq0 ?_
               simp only [ps]
               refine tLp 9 ((.int .i64 (a:Int))) rfl hq0 ?_
               simp only [ps]
               refine tL 10 ((.pointer (some ⟨g,a,none⟩))) rfl (Or.inl ⟨rfl,fun W' _=>by go_simp <;> (intro h; omega)⟩) hq0 ?_
               simp only [ps]
               refine tL 11 (_) rfl (yieldsIf_cell rfl 3 _ rfl ⟨g,a,none⟩ rfl (.int .i64 v) _ (fun W' hW'=>(show W'.cell? ⟨g,a,none⟩=_ from (NU.out.ext hW').cell (by omega)).trans (by rw [hva])) Try.underlying3 rfl) hq0 ?_
               simp only [ps]
               refine runG (i:=12) rfl (by rfl) (by kernel_rfl) (fun K hK=>?_)
               go_simp
               refine (less_ext x v _).mono ?_
               rintro e wc1 ⟨rfl,hx⟩
               have hq1:=hq0.trans hx
               refine hK.out _ _ hq1 (fun hHeld=>?_)
               try simp only [ps]
               clear hK K hHeld
               refine tL 13 ((.bool (!(decide (x < v))))) rfl (Or.inl ⟨rfl,fun W' _=>by go_simp⟩) hq1 ?_
               simp only [ps]
               refine tLp 14 ((.bool (!(decide (x < v))))) rfl hq1 ?_
               simp only [ps]
               refine wpAnyH_done (by kernel_rfl) ?_ _
               have NU2:=Lib.hid (NU.out.ext hq1)
               have MU2:=Lib.hid (MU.out.trans (hq1.mut (fun k=>k=g)))
               clear hq0 hqx hq1
               generalize hwn0:wc1=w5 at *
               go_wp2_with fail
               go_meet
               exact ⟨congrArg Value.bool (by rw [← HC.out,decide_eq_true hij,PRd.out,arr_at l (by omega),hvj]; rfl),NU2.out,MU2.out⟩
              ·have dij:decide ((i:Int)≤(j:Int))=false:=by simp; omega
               refine beginL (S:=fun W'=>Ext wl W') (by kernel_rfl) ?_
               intro wd hqx
               have hq0:Ext wl wd:=hqx
               refine tLp 0 ((.int .i64 (i:Int))) rfl hq0 ?_
               simp only [ps]
               refine tLp 1 ((.int .i64 (j:Int))) rfl hq0 ?_
               simp only [ps]
               refine tL 2 ((.bool false)) rfl (Or.inl ⟨rfl,fun W' _=>by go_simp⟩) hq0 ?_
               simp only [ps]
               refine tLp 3 ((.bool false)) rfl hq0 ?_
               simp only [ps]
               refine tL 4 (undef) rfl (Or.inr ⟨rfl,rfl⟩) hq0 ?_
               simp only [ps]
               refine tL 5 (undef) rfl (Or.inr ⟨rfl,rfl⟩) hq0 ?_
               simp only [ps]
               refine tL 6 (undef) rfl (Or.inr ⟨rfl,rfl⟩) hq0 ?_
               simp only [ps]
               refine tL 7 (undef) rfl (Or.inr ⟨rfl,rfl⟩) hq0 ?_
               simp only [ps]
               refine tL 8 (undef) rfl (Or.inr ⟨rfl,rfl⟩) hq0 ?_
               simp only [ps]
               refine tL 9 (undef) rfl (Or.inr ⟨rfl,rfl⟩) hq0 ?_
               simp only [ps]
               refine tL 10 (undef) rfl (Or.inr ⟨rfl,rfl⟩) hq0 ?_
               simp only [ps]
               refine tL 11 (undef) rfl (Or.inr ⟨rfl,rfl⟩) hq0 ?_
               simp only [ps]
               refine tL 12 (undef) rfl (Or.inr ⟨rfl,rfl⟩) hq0 ?_
               simp only [ps]
               refine tL 13 (undef) rfl (Or.inr ⟨rfl,rfl⟩) hq0 ?_
               simp only [ps]
               refine tLp 14 ((.bool false)) rfl hq0 ?_
               simp only [ps]
               refine wpAnyH_done (by kernel_rfl) ?_ _
               have NU2:=Lib.hid (NU.out.ext hq0)
               have MU2:=Lib.hid (MU.out.trans (hq0.mut (fun k=>k=g)))
               clear hq0 hqx
               generalize hwn0:wd=w5 at *
               go_wp2_with fail
               go_meet
               exact ⟨congrArg Value.bool (by rw [← HC.out,decide_eq_false hij]; rfl),NU2.out,MU2.out⟩
             case rest =>
              obtain ⟨rfl,hnu,hmu⟩:=hcut
              have NU2:=Lib.hid hnu
              have MU2:=Lib.hid hmu
              clear hnu hmu NU MU
              rename World=>wx
              cases c with
              | true =>
               have hij:i≤j:=by
                have:=HC.out
                rw [Bool.and_eq_true,decide_eq_true_eq] at this
                exact this.1
               have SC2:=Lib.hid (show Go.Sort.scanDown prd l.toArray i (j - 1)=IJd from by rw [← SC.out]; exact (sdn_go _ _ _ _ HC.out).symm)
               obtain ⟨j1,hv1⟩:∃ j1,j - 1=j1:=⟨_,rfl⟩
               rw [hv1] at SC2
               have LB2:=Lib.hid (show (a1≤i∧i≤j1+2∧j1 < n∧j1≤j0)∧j1 < j from by have:=LB.out; have:=HA1.out; omega)
               have hup:IntKind.i64.wrap ((j:Int) - 1)=(j1:Int):=by have:=LB.out; have:=HA1.out; rw [IntKind.wrap_i64]; omega
               clear hv1
               go_wp2_with fail
               go_roundw
               case rel=>exact ⟨j1,rfl,LB2.out.1,NU2.out,SC2.out,MU2.out⟩
               case measure=>have:=LB.out; have:=LB2.out; simp [intOf] <;> omega
              | false =>
               have HEd:=Lib.hid (show IJd=j from SC.out.symm.trans (sdn_stop _ _ _ _ HC.out))
               have NU:=NU2
               have MU:=MU2
               clear SC HC NU2 MU2
               by_cases hgt:i > j
               ·have hjn:j < n:=by have:=LB.out; omega
                have dgt:decide ((i:Int) > (j:Int))=true:=by simp; omega
                have dgt2:decide ((j:Int) < (i:Int))=true:=by simp; omega
                go_wp2_with fail
                obtain ⟨x,hvp⟩:∃ x,at0 l j=x:=⟨_,rfl⟩
                obtain ⟨y,hvq⟩:∃ y,at0 l a=y:=⟨_,rfl⟩
                refine beginZ (S:=fun W'=>Ext wx W') 13 (by kernel_rfl) ?_
                intro wd hqx
                have hq0:Ext wx wd:=hqx
                refine takeY (i:=0) (z:=13) (v:=(.slice (some ⟨g,0,none⟩) n cap)) rfl (by kernel_rfl) (by kernel_rfl) (by kernel_rfl) (by kernel_rfl) (fun _ _ _ h=>h) (Or.inl ⟨rfl,fun _ _=>rfl⟩) hq0 ?_
                simp only [ps]
                refine takeY (i:=1) (z:=13) (v:=(.int .i64 (j:Int))) rfl (by kernel_rfl) (by kernel_rfl) (by kernel_rfl) (by kernel_rfl) (fun _ _ _ h=>h) (Or.inl ⟨rfl,fun _ _=>rfl⟩) hq0 ?_
                simp only [ps]
                refine takeY (i:=2) (z:=13) (v:=(.slice (some ⟨g,0,none⟩) n cap)) rfl (by kernel_rfl) (by kernel_rfl) (by kernel_rfl) (by kernel_rfl) (fun _ _ _ h=>h) (Or.inl ⟨rfl,fun _ _=>rfl⟩) hq0 ?_
                simp only [ps]
                refine takeY (i:=3) (z:=13) (v:=(.int .i64 (a:Int))) rfl (by kernel_rfl) (by kernel_rfl) (by kernel_rfl) (by kernel_rfl) (fun _ _ _ h=>h) (Or.inl ⟨rfl,fun _ _=>rfl⟩) hq0 ?_
                simp only [ps]
                refine takeY (i:=4) (z:=13) (v:=(.slice (some ⟨g,0,none⟩) n cap)) rfl (by kernel_rfl) (by kernel_rfl) (by kernel_rfl) (by kernel_rfl) (fun _ _ _ h=>h) (Or.inl ⟨rfl,fun _ _=>rfl⟩) hq0 ?_
                simp only [ps]
                refine takeY (i:=5) (z:=13) (v:=(.int .i64 (a:Int))) rfl (by kernel_rfl) (by kernel_rfl) (by kernel_rfl) (by kernel_rfl) (fun _ _ _ h=>h) (Or.inl ⟨rfl,fun _ _=>rfl⟩) hq0 ?_
                simp only [ps]
                refine takeY (i:=6) (z:=13) (v:=(.pointer (some ⟨g,a,none⟩))) rfl (by kernel_rfl) (by kernel_rfl) (by kernel_rfl) (by kernel_rfl) (fun _ _ _ h=>h) (Or.inl ⟨rfl,fun W' _=>by go_simp <;> (intro h; omega)⟩) hq0 ?_
                simp only [ps]
                refine takeZ (i:=7) (z:=13) (v:=_) rfl rfl (by kernel_rfl) (by kernel_rfl) (by kernel_rfl) (by kernel_rfl) (by kernel_rfl) (by kernel_rfl) (fun _ _ _ h=>h) (yieldsIf_cell rfl 3 _ rfl ⟨g,a,none⟩ rfl (.int .i64 y) _ (fun W' hW'=>(show W'.cell? ⟨g,a,none⟩=_ from (NU.out.ext hW').cell (by omega)).trans (by rw [hvq])) Try.underlying3 rfl) hq0 ?_
                simp only [ps]
                refine takeY (i:=8) (z:=13) (v:=(.slice (some ⟨g,0,none⟩) n cap)) rfl (by kernel_rfl) (by kernel_rfl) (by kernel_rfl) (by kernel_rfl) (fun _ _ _ h=>h) (Or.inl ⟨rfl,fun _ _=>rfl⟩) hq0 ?_
                simp only [ps]
                refine takeY (i:=9) (z:=13) (v:=(.int .i64 (j:Int))) rfl (by kernel_rfl) (by kernel_rfl) (by kernel_rfl) (by kernel_rfl) (fun _ _ _ h=>h) (Or.inl ⟨rfl,fun _ _=>rfl⟩) hq0 ?_
                simp only [ps]
                refine takeY (i:=10) (z:=13) (v:=(.pointer (some ⟨g,j,none⟩))) rfl (by kernel_rfl) (by kernel_rfl) (by kernel_rfl) (by kernel_rfl) (fun _ _ _ h=>h) (Or.inl ⟨rfl,fun W' _=>by go_simp <;> (intro h; omega)⟩) hq0 ?_
                simp only [ps]
                refine takeZ (i:=11) (z:=13) (v:=_) rfl rfl (by kernel_rfl) (by kernel_rfl) (by kernel_rfl) (by kernel_rfl) (by kernel_rfl) (by kernel_rfl) (fun _ _ _ h=>h) (yieldsIf_cell rfl 3 _ rfl ⟨g,j,none⟩ rfl (.int .i64 x) _ (fun W' hW'=>(show W'.cell? ⟨g,j,none⟩=_ from (NU.out.ext hW').cell (by omega)).trans (by rw [hvp])) Try.underlying3 rfl) hq0 ?_
                simp only [ps]
                refine takeY (i:=12) (z:=13) (v:=(.pointer (some ⟨g,j,none⟩))) rfl (by kernel_rfl) (by kernel_rfl) (by kernel_rfl) (by kernel_rfl) (fun _ _ _ h=>h) (Or.inl ⟨rfl,fun W' _=>by go_simp <;> (intro h; omega)⟩) hq0 ?_
                simp only [ps]
                refine runZl (z:=13) rfl rfl (by kernel_rfl) (fun K hK=>?_)
                have hce:=(NU.out.ext hq0)
                have hc1:wd.cell? ⟨g,j,none⟩=some (.int .i64 (at0 l (j))):=hce.cell (by omega)
                have hf1:=hce.froz (j)
                go_simp
                refine hK.out _ _ ?_
                try simp only [ps]
                clear hK K hc1 hf1
                have hce2:=hce.set (p:=j) (by omega) (at0 l (a))
                rw [hvq] at hce2
                have hq9:=(hq0.mut (fun k=>k=g)).setCell (p:=⟨g,j,none⟩) (.inl rfl) (.int .i64 y)
                refine tL 14 ((.pointer (some ⟨g,a,none⟩))) rfl (Or.inl ⟨rfl,fun W' _=>by go_simp <;> (intro h; omega)⟩) trivial ?_
                simp only [ps]
                refine runL (i:=15) rfl rfl (by kernel_rfl) (fun K hK=>?_)
                have hc2:(wd.setCell ⟨g,j,none⟩ (.int .i64 y)).cell? ⟨g,a,none⟩=some (.int .i64 (at0 (l.set (j) y) (a))):=hce2.cell (by simp; omega)
                have hf2:=hce2.froz (a)
                go_simp
                refine hK.out _ _ trivial (fun _=>?_)
                try simp only [ps]
                clear hK K hc2 hf2
                refine wpAnyH_done (by kernel_rfl) ?_ _
                have hce3:=hce2.set (p:=a) (by simp; omega) (at0 l (j))
                rw [hvp] at hce3
                have NU3:=Lib.hid (show Nums _ g (swl l (j) (a)) from by unfold swl; rw [hvp,hvq]; exact hce3)
                have MU3:=Lib.hid (hq9.setCell (p:=⟨g,a,none⟩) (.inl rfl) (.int .i64 x))
                clear hce hce2 hce3 hq9 hq0 hqx
                generalize (wd.setCell ⟨g,j,none⟩ (.int .i64 y)).setCell ⟨g,a,none⟩ (.int .i64 x)=wm at *
                clear hvp hvq
                go_wp2_with fail
                go_ret2
                refine ⟨j,false,(swl l j a).toArray,rfl,?_,swl l j a,NU3.out,by rw [swl_len]; exact hln,rfl,MU.out.trans MU3.out⟩
                have h1:=EQ.out
                rw [HEu.out,HEd.out,if_pos hgt,HR.out] at h1
                rw [PQ.out,h1,swl_arr l (by omega) (by omega)]
               ·have hjn:j < n:=by have:=LB.out; omega
                have dgt:decide ((i:Int) > (j:Int))=false:=by simp; omega
                have dgt2:decide ((j:Int) < (i:Int))=false:=by simp; omega
                have EQ2:Go.Sort.partLoop ltI a (i+1) (j - 1) (swl l i j).toArray=R:=by
                 have h1:=EQ.out
                 rw [HEu.out,HEd.out,if_neg hgt,HR.out] at h1
                 rw [swl_arr l (by omega) (by omega)]
                 exact h1.symm
                obtain ⟨i1,hi1⟩:∃ i1,i+1=i1:=⟨_,rfl⟩
                obtain ⟨j1,hj1⟩:∃ j1,j - 1=j1:=⟨_,rfl⟩
                have hup:IntKind.i64.wrap ((i:Int)+1)=(i1:Int):=by have:=LB.out; rw [IntKind.wrap_i64]; omega
                have hdn:IntKind.i64.wrap ((j:Int) - 1)=(j1:Int):=by have:=LB.out; have:=HA1.out; rw [IntKind.wrap_i64]; omega
                have LB2:=Lib.hid (show (a1≤i1∧i1≤j1+2∧j1 < n)∧j1 < j0 from by have:=LB.out; have:=HA1.out; omega)
                rw [hi1,hj1] at EQ2
                clear hi1 hj1
                have EQ3:=Lib.hid EQ2
                clear EQ2 EQ HR HEu HEd
                go_wp2_with fail
                obtain ⟨x,hvp⟩:∃ x,at0 l i=x:=⟨_,rfl⟩
                obtain ⟨y,hvq⟩:∃ y,at0 l j=y:=⟨_,rfl⟩
                refine beginZ (S:=fun W'=>Ext wx W') 13 (by kernel_rfl) ?_
                intro wd hqx
                have hq0:Ext wx wd:=hqx
                refine takeY (i:=0) (z:=13) (v:=(.slice (some ⟨g,0,none⟩) n cap)) rfl (by kernel_rfl) (by kernel_rfl) (by kernel_rfl) (by kernel_rfl) (fun _ _ _ h=>h) (Or.inl ⟨rfl,fun _ _=>rfl⟩) hq0 ?_
                simp only [ps]
                refine takeY (i:=1) (z:=13) (v:=(.int .i64 (i:Int))) rfl (by kernel_rfl) (by kernel_rfl) (by kernel_rfl) (by kernel_rfl) (fun _ _ _ h=>h) (Or.inl ⟨rfl,fun _ _=>rfl⟩) hq0 ?_
                simp only [ps]
                refine takeY (i:=2) (z:=13) (v:=(.slice (some ⟨g,0,none⟩) n cap)) rfl (by kernel_rfl) (by kernel_rfl) (by kernel_rfl) (by kernel_rfl) (fun _ _ _ h=>h) (Or.inl ⟨rfl,fun _ _=>rfl⟩) hq0 ?_
                simp only [ps]
                refine takeY (i:=3) (z:=13) (v:=(.int .i64 (j:Int))) rfl (by kernel_rfl) (by kernel_rfl) (by kernel_rfl) (by kernel_rfl) (fun _ _ _ h=>h) (Or.inl ⟨rfl,fun _ _=>rfl⟩) hq0 ?_
                simp only [ps]
                refine takeY (i:=4) (z:=13) (v:=(.slice (some ⟨g,0,none⟩) n cap)) rfl (by kernel_rfl) (by kernel_rfl) (by kernel_rfl) (by kernel_rfl) (fun _ _ _ h=>h) (Or.inl ⟨rfl,fun _ _=>rfl⟩) hq0 ?_
                simp only [ps]
                refine takeY (i:=5) (z:=13) (v:=(.int .i64 (j:Int))) rfl (by kernel_rfl) (by kernel_rfl) (by kernel_rfl) (by kernel_rfl) (fun _ _ _ h=>h) (Or.inl ⟨rfl,fun _ _=>rfl⟩) hq0 ?_
                simp only [ps]
                refine takeY (i:=6) (z:=13) (v:=(.pointer (some ⟨g,j,none⟩))) rfl (by kernel_rfl) (by kernel_rfl) (by kernel_rfl) (by kernel_rfl) (fun _ _ _ h=>h) (Or.inl ⟨rfl,fun W' _=>by go_simp <;> (intro h; omega)⟩) hq0 ?_
                simp only [ps]
                refine takeZ (i:=7) (z:=13) (v:=_) rfl rfl (by kernel_rfl) (by kernel_rfl) (by kernel_rfl) (by kernel_rfl) (by kernel_rfl) (by kernel_rfl) (fun _ _ _ h=>h) (yieldsIf_cell rfl 3 _ rfl ⟨g,j,none⟩ rfl (.int .i64 y) _ (fun W' hW'=>(show W'.cell? ⟨g,j,none⟩=_ from (NU.out.ext hW').cell (by omega)).trans (by rw [hvq])) Try.underlying3 rfl) hq0 ?_
                simp only [ps]
                refine takeY (i:=8) (z:=13) (v:=(.slice (some ⟨g,0,none⟩) n cap)) rfl (by kernel_rfl) (by kernel_rfl) (by kernel_rfl) (by kernel_rfl) (fun _ _ _ h=>h) (Or.inl ⟨rfl,fun _ _=>rfl⟩) hq0 ?_
                simp only [ps]
                refine takeY (i:=9) (z:=13) (v:=(.int .i64 (i:Int))) rfl (by kernel_rfl) (by kernel_rfl) (by kernel_rfl) (by kernel_rfl) (fun _ _ _ h=>h) (Or.inl ⟨rfl,fun _ _=>rfl⟩) hq0 ?_
                simp only [ps]
                refine takeY (i:=10) (z:=13) (v:=(.pointer (some ⟨g,i,none⟩))) rfl (by kernel_rfl) (by kernel_rfl) (by kernel_rfl) (by kernel_rfl) (fun _ _ _ h=>h) (Or.inl ⟨rfl,fun W' _=>by go_simp <;> (intro h; omega)⟩) hq0 ?_
                simp only [ps]
                refine takeZ (i:=11) (z:=13) (v:=_) rfl rfl (by kernel_rfl) (by kernel_rfl) (by kernel_rfl) (by kernel_rfl) (by kernel_rfl) (by kernel_rfl) (fun _ _ _ h=>h) (yieldsIf_cell rfl 3 _ rfl ⟨g,i,none⟩ rfl (.int .i64 x) _ (fun W' hW'=>(show W'.cell? ⟨g,i,none⟩=_ from (NU.out.ext hW').cell (by omega)).trans (by rw [hvp])) Try.underlying3 rfl) hq0 ?_
                simp only [ps]
                refine takeY (i:=12) (z:=13) (v:=(.pointer (some ⟨g,i,none⟩))) rfl (by kernel_rfl) (by kernel_rfl) (by kernel_rfl) (by kernel_rfl) (fun _ _ _ h=>h) (Or.inl ⟨rfl,fun W' _=>by go_simp <;> (intro h; omega)⟩) hq0 ?_
                simp only [ps]
                refine runZl (z:=13) rfl rfl (by kernel_rfl) (fun K hK=>?_)
                have hce:=(NU.out.ext hq0)
                have hc1:wd.cell? ⟨g,i,none⟩=some (.int .i64 (at0 l (i))):=hce.cell (by omega)
                have hf1:=hce.froz (i)
                go_simp
                refine hK.out _ _ ?_
                try simp only [ps]
                clear hK K hc1 hf1
                have hce2:=hce.set (p:=i) (by omega) (at0 l (j))
                rw [hvq] at hce2
                have hq9:=(hq0.mut (fun k=>k=g)).setCell (p:=⟨g,i,none⟩) (.inl rfl) (.int .i64 y)
                refine tL 14 ((.pointer (some ⟨g,j,none⟩))) rfl (Or.inl ⟨rfl,fun W' _=>by go_simp <;> (intro h; omega)⟩) trivial ?_
                simp only [ps]
                refine runL (i:=15) rfl rfl (by kernel_rfl) (fun K hK=>?_)
                have hc2:(wd.setCell ⟨g,i,none⟩ (.int .i64 y)).cell? ⟨g,j,none⟩=some (.int .i64 (at0 (l.set (i) y) (j))):=hce2.cell (by simp; omega)
                have hf2:=hce2.froz (j)
                go_simp
                refine hK.out _ _ trivial (fun _=>?_)
                try simp only [ps]
                clear hK K hc2 hf2
                refine wpAnyH_done (by kernel_rfl) ?_ _
                have hce3:=hce2.set (p:=j) (by simp; omega) (at0 l (i))
                rw [hvp] at hce3
                have NU3:=Lib.hid (show Nums _ g (swl l (i) (j)) from by unfold swl; rw [hvp,hvq]; exact hce3)
                have MU3:=Lib.hid (hq9.setCell (p:=⟨g,j,none⟩) (.inl rfl) (.int .i64 x))
                clear hce hce2 hce3 hq9 hq0 hqx
                generalize (wd.setCell ⟨g,i,none⟩ (.int .i64 y)).setCell ⟨g,j,none⟩ (.int .i64 x)=wm at *
                clear hvp hvq
                go_wp2_with fail
                go_roundw
                case rel=>exact ⟨i1,j1,swl l i j,rfl,rfl,LB2.out.1,NU3.out,by rw [swl_len]; exact hln,EQ3.out,MU.out.trans MU3.out⟩
                case measure=>have:=LB2.out; simp [intOf] <;> omega
end Go.Proofs.Ytamnmjckhicapaa
