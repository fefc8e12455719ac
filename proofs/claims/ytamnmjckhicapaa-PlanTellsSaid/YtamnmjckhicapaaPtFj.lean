/- Part 10 of what PlanVersions stands on. No statement is proved here. -/
import Derived.Sort.AssemblyPlain
import Derived.Deep.RegionHeld3
import Derived.Deep.QuietTactic
import Derived.Test.YtamnmjckhicapaaPtFi
namespace Go.Proofs.Ytamnmjckhicapaa
open Go.RowKit Go.BigFrame Go.WideShapes Go.ChangeShapes Go.Deep
set_option linter.unusedVariables false
set_option linter.unusedSimpArgs false
set_option maxRecDepth 100000
set_option maxRecDepth 100000
set_option maxRecDepth 100000 in
set_option maxHeartbeats 2000000 in
theorem parte_any (w:World) (g n cap:Nat) (l0:List Int) (a b pv:Nat) (hab:a < b) (hpa:a≤pv) (hpb:pv < b) (hb:b≤n) (hn:n≤500) (h:Nums w g l0) (hl0:l0.length=n) :
    Calls Try.prog 91 #[(.slice (some ⟨g,0,none⟩) n cap),.int .i64 a,.int .i64 b,.int .i64 pv] w (ParteP w g n (Go.Sort.partitionEqual ltI l0.toArray a b pv)):=by
 have NU:=Lib.hid h
 have hln:l0.length=n:=hl0
 obtain ⟨a1,ha1⟩:∃ a1,a+1=a1:=⟨_,rfl⟩
 have HA1:=Lib.hid ha1
 obtain ⟨i0,hi0⟩:∃ i0,i0=a1:=⟨_,rfl⟩
 obtain ⟨j0,hj0⟩:∃ j0,b - 1=j0:=⟨_,rfl⟩
 have HI0:=Lib.hid (And.intro hi0 hj0)
 have hw1:IntKind.i64.wrap ((a:Int)+1)=(i0:Int):=by rw [IntKind.wrap_i64]; omega
 have hw2:IntKind.i64.wrap ((b:Int) - 1)=(j0:Int):=by rw [IntKind.wrap_i64]; omega
 have han:a < n:=by omega
 have hpn:pv < n:=by omega
 have LB:=Lib.hid (show a1≤i0∧i0≤j0+2∧j0 < n by omega)
 clear h ha1 hi0 hj0
 go_enter Try.func91,Try.ntmps91
 obtain ⟨x,hvp⟩:∃ x,at0 l0 a=x:=⟨_,rfl⟩
 obtain ⟨y,hvq⟩:∃ y,at0 l0 pv=y:=⟨_,rfl⟩
 go_wp2_with fail
 refine beginZ (S:=fun W'=>Ext w W') 13 (by kernel_rfl) ?_
 intro wd hqx
 have hq0:Ext w wd:=hqx
 refine takeY (i:=0) (z:=13) (v:=(.slice (some ⟨g,0,none⟩) n cap)) rfl (by kernel_rfl) (by kernel_rfl) (by kernel_rfl) (by kernel_rfl) (fun _ _ _ h=>h) (Or.inl ⟨rfl,fun _ _=>rfl⟩) hq0 ?_
 simp only [ps]
 refine takeY (i:=1) (z:=13) (v:=(.int .i64 (a:Int))) rfl (by kernel_rfl) (by kernel_rfl) (by kernel_rfl) (by kernel_rfl) (fun _ _ _ h=>h) (Or.inl ⟨rfl,fun _ _=>rfl⟩) hq0 ?_
 simp only [ps]
 refine takeY (i:=2) (z:=13) (v:=(.slice (some ⟨g,0,none⟩) n cap)) rfl (by kernel_rfl) (by kernel_rfl) (by kernel_rfl) (by kernel_rfl) (fun _ _ _ h=>h) (Or.inl ⟨rfl,fun _ _=>rfl⟩) hq0 ?_
 simp only [ps]
 refine takeY (i:=3) (z:=13) (v:=(.int .i64 (pv:Int))) rfl (by kernel_rfl) (by kernel_rfl) (by kernel_rfl) (by kernel_rfl) (fun _ _ _ h=>h) (Or.inl ⟨rfl,fun _ _=>rfl⟩) hq0 ?_
 simp only [ps]
 refine takeY (i:=4) (z:=13) (v:=(.slice (some ⟨g,0,none⟩) n cap)) rfl (by kernel_rfl) (by kernel_rfl) (by kernel_rfl) (by kernel_rfl) (fun _ _ _ h=>h) (Or.inl ⟨rfl,fun _ _=>rfl⟩) hq0 ?_
 simp only [ps]
 refine takeY (i:=5) (z:=13) (v:=(.int .i64 (pv:Int))) rfl (by kernel_rfl) (by kernel_rfl) (by kernel_rfl) (by kernel_rfl) (fun _ _ _ h=>h) (Or.inl ⟨rfl,fun _ _=>rfl⟩) hq0 ?_
 simp only [ps]
 refine takeY (i:=6) (z:=13) (v:=(.pointer (some ⟨g,pv,none⟩))) rfl (by kernel_rfl) (by kernel_rfl) (by kernel_rfl) (by kernel_rfl) (fun _ _ _ h=>h) (Or.inl ⟨rfl,fun W' _=>by go_simp <;> (intro h; omega)⟩) hq0 ?_
 simp only [ps]
 refine takeZ (i:=7) (z:=13) (v:=_) rfl rfl (by kernel_rfl) (by kernel_rfl) (by kernel_rfl) (by kernel_rfl) (by kernel_rfl) (by kernel_rfl) (fun _ _ _ h=>h) (yieldsIf_cell rfl 3 _ rfl ⟨g,pv,none⟩ rfl (.int .i64 y) _ (fun W' hW'=>(show W'.cell? ⟨g,pv,none⟩=_ from (NU.out.ext hW').cell (by omega)).trans (by rw [hvq])) Try.underlying3 rfl) hq0 ?_
 simp only [ps]
 refine takeY (i:=8) (z:=13) (v:=(.slice (some ⟨g,0,none⟩) n cap)) rfl (by kernel_rfl) (by kernel_rfl) (by kernel_rfl) (by kernel_rfl) (fun _ _ _ h=>h) (Or.inl ⟨rfl,fun _ _=>rfl⟩) hq0 ?_
 simp only [ps]
 refine takeY (i:=9) (z:=13) (v:=(.int .i64 (a:Int))) rfl (by kernel_rfl) (by kernel_rfl) (by kernel_rfl) (by kernel_rfl) (fun _ _ _ h=>h) (Or.inl ⟨rfl,fun _ _=>rfl⟩) hq0 ?_
 simp only [ps]
 refine takeY (i:=10) (z:=13) (v:=(.pointer (some ⟨g,a,none⟩))) rfl (by kernel_rfl) (by kernel_rfl) (by kernel_rfl) (by kernel_rfl) (fun _ _ _ h=>h) (Or.inl ⟨rfl,fun W' _=>by go_simp <;> (intro h; omega)⟩) hq0 ?_
 simp only [ps]
 refine takeZ (i:=11) (z:=13) (v:=_) rfl rfl (by kernel_rfl) (by kernel_rfl) (by kernel_rfl) (by kernel_rfl) (by kernel_rfl) (by kernel_rfl) (fun _ _ _ h=>h) (yieldsIf_cell rfl 3 _ rfl ⟨g,a,none⟩ rfl (.int .i64 x) _ (fun W' hW'=>(show W'.cell? ⟨g,a,none⟩=_ from (NU.out.ext hW').cell (by omega)).trans (by rw [hvp])) Try.underlying3 rfl) hq0 ?_
 simp only [ps]
 refine takeY (i:=12) (z:=13) (v:=(.pointer (some ⟨g,a,none⟩))) rfl (by kernel_rfl) (by kernel_rfl) (by kernel_rfl) (by kernel_rfl) (fun _ _ _ h=>h) (Or.inl ⟨rfl,fun W' _=>by go_simp <;> (intro h; omega)⟩) hq0 ?_
 simp only [ps]
 refine runZl (z:=13) rfl rfl (by kernel_rfl) (fun K hK=>?_)
 have hce:=(NU.out.ext hq0)
 have hc1:wd.cell? ⟨g,a,none⟩=some (.int .i64 (at0 l0 (a))):=hce.cell (by omega)
 have hf1:=hce.froz (a)
 go_simp
 refine hK.out _ _ ?_
 try simp only [ps]
 clear hK K hc1 hf1
 have hce2:=hce.set (p:=a) (by omega) (at0 l0 (pv))
 rw [hvq] at hce2
 have hq9:=(hq0.mut (fun k=>k=g)).setCell (p:=⟨g,a,none⟩) (.inl rfl) (.int .i64 y)
 refine tL 14 ((.pointer (some ⟨g,pv,none⟩))) rfl (Or.inl ⟨rfl,fun W' _=>by go_simp <;> (intro h; omega)⟩) trivial ?_
 simp only [ps]
 refine runL (i:=15) rfl rfl (by kernel_rfl) (fun K hK=>?_)
 have hc2:(wd.setCell ⟨g,a,none⟩ (.int .i64 y)).cell? ⟨g,pv,none⟩=some (.int .i64 (at0 (l0.set (a) y) (pv))):=hce2.cell (by simp; omega)
 have hf2:=hce2.froz (pv)
 go_simp
 refine hK.out _ _ trivial (fun _=>?_)
 try simp only [ps]
 clear hK K hc2 hf2
 refine wpAnyH_done (by kernel_rfl) ?_ _
 have hce3:=hce2.set (p:=pv) (by simp; omega) (at0 l0 (a))
 rw [hvp] at hce3
 have NU3:=Lib.hid (show Nums _ g (swl l0 (a) (pv)) from by unfold swl; rw [hvp,hvq]; exact hce3)
 have MU3:=Lib.hid (hq9.setCell (p:=⟨g,pv,none⟩) (.inl rfl) (.int .i64 x))
 clear hce hce2 hce3 hq9 hq0 hqx
 generalize (wd.setCell ⟨g,a,none⟩ (.int .i64 y)).setCell ⟨g,pv,none⟩ (.int .i64 x)=wm at *
 clear hvp hvq NU
 obtain ⟨R,hR⟩:∃ R,Go.Sort.partitionEqual ltI l0.toArray a b pv=R:=⟨_,rfl⟩
 have HRR:=Lib.hid hR
 have H1:=Lib.hid (show ∃ l:List Int,Nums wm g l∧l.length=n∧Go.Sort.partEqLoop ltI a i0 j0 l.toArray=R∧Mut (fun k=>k=g) w wm from
  ⟨swl l0 a pv,NU3.out,by rw [swl_len]; exact hl0,by rw [← hR,swl_arr l0 (by omega) (by omega),HI0.out.1,← HA1.out,← HI0.out.2]; rfl,MU3.out⟩)
 clear hR NU3 MU3 hln
 go_wp2_with fail
 go_loopw [9,10] (fun s t wr=>∃ (i0 j0:Nat) (l:List Int),s=.int .i64 i0∧t=.int .i64 j0∧(a1≤i0∧i0≤j0+2∧j0 < n)∧Nums wr g l∧l.length=n∧Go.Sort.partEqLoop ltI a i0 j0 l.toArray=R∧Mut (fun k=>k=g) w wr) (fun _ t _=>(intOf t).toNat)
 case atStart =>
  obtain ⟨l,q1,q2,q3,q4⟩:=H1.out
  exact ⟨i0,j0,l,rfl,rfl,LB.out,q1,q2,q3,q4⟩
 case round =>
  clear H1 LB
  obtain ⟨i0,j0,l,rfl,rfl,hlb,hnu,hln,hpl,hmu⟩:=hrel
  rename World=>wl
  have LB:=Lib.hid hlb
  have NU:=Lib.hid hnu
  have MU:=Lib.hid hmu
  have HR:=Lib.hid hpl
  clear hlb hnu hmu hpl
  obtain ⟨v,hva⟩:∃ v,at0 l a=v:=⟨_,rfl⟩
  obtain ⟨pru,hpu⟩:∃ p,(fun x=>!ltI l.toArray[a]! x)=p:=⟨_,rfl⟩
  obtain ⟨prd,hpd⟩:∃ p,(fun x=>ltI l.toArray[a]! x)=p:=⟨_,rfl⟩
  obtain ⟨IJu,hsu⟩:∃ I,Go.Sort.scanUp pru l.toArray j0 i0=I:=⟨_,rfl⟩
  obtain ⟨IJd,hsd⟩:∃ J,Go.Sort.scanDown prd l.toArray IJu j0=J:=⟨_,rfl⟩
  have EQ:=Lib.hid (eq_split a i0 j0 l.toArray pru prd IJu IJd hpu hpd hsu hsd)
  have PRu:=Lib.hid (show ∀ x,pru x=!ltI v x from fun x=>by rw [← hpu]; dsimp only; rw [arr_at l (by omega),hva])
  have PRd:=Lib.hid (show ∀ x,prd x=ltI v x from fun x=>by rw [← hpd]; dsimp only; rw [arr_at l (by omega),hva])
  have HSu:=Lib.hid hsu
  have HSd:=Lib.hid hsd
  clear hpu hpd hsu hsd
  go_wp2_with fail
  go_loopw [9] (fun s wr=>∃ i:Nat,s=.int .i64 i∧(a1≤i∧i≤j0+2∧j0 < n)∧Nums wr g l∧Go.Sort.scanUp pru l.toArray j0 i=IJu∧Mut (fun k=>k=g) w wr) (fun s _=>n+3 - (intOf s).toNat)
  case atStart=>exact ⟨i0,rfl,by have:=LB.out; omega,NU.out,HSu.out,MU.out⟩
  case round =>
   clear HSu LB NU MU
   obtain ⟨i,rfl,hlb,hnu,hsc,hmu⟩:=hrel
   rename World=>wl
   have LB:=Lib.hid hlb
   have NU:=Lib.hid hnu
   have MU:=Lib.hid hmu
   have SC:=Lib.hid hsc
   clear hlb hnu hmu hsc
   obtain ⟨c,hc⟩:∃ c,(decide (i≤j0) && pru l.toArray[i]!)=c:=⟨_,rfl⟩
   have HC:=Lib.hid hc
   clear hc
   go_upto_region 3 with fail
   go_cut [43] from 29 to 45 (fun s wx=>s=.bool c∧Nums wx g l∧Mut (fun k=>k=g) w wx)
   case first =>
    by_cases hij:i≤j0
    ·have dij:decide ((i:Int)≤(j0:Int))=true:=by simp; omega
     have hin:i < n:=by have:=LB.out; omega
     obtain ⟨x,hvi⟩:∃ x,at0 l i=x:=⟨_,rfl⟩
     refine beginL (S:=fun W'=>Ext wl W') (by kernel_rfl) ?_
     intro wd hqx
     have hq0:Ext wl wd:=hqx
     refine tLp 0 ((.int .i64 (i:Int))) rfl hq0 ?_
     simp only [ps]
     refine tLp 1 ((.int .i64 (j0:Int))) rfl hq0 ?_
     simp only [ps]
     refine tL 2 ((.bool true)) rfl (Or.inl ⟨rfl,fun W' _=>by go_simp⟩) hq0 ?_
     simp only [ps]
     refine tLp 3 ((.bool true)) rfl hq0 ?_
     simp only [ps]
     refine tLp 4 ((.slice (some ⟨g,0,none⟩) n cap)) rfl hq0 ?_
     simp only [ps]
     refine tLp 5 ((.int .i64 (a:Int))) rfl hq0 ?_
     simp only [ps]
     refine tL 6 ((.pointer (some ⟨g,a,none⟩))) rfl (Or.inl ⟨rfl,fun W' _=>by go_simp <;> (intro h; omega)⟩) hq0 ?_
     simp only [ps]
     refine tL 7 (_) rfl (yieldsIf_cell rfl 3 _ rfl ⟨g,a,none⟩ rfl (.int .i64 v) _ (fun W' hW'=>(show W'.cell? ⟨g,a,none⟩=_ from (NU.out.ext hW').cell (by omega)).trans (by rw [hva])) Try.underlying3 rfl) hq0 ?_
     simp only [ps]
     refine tLp 8 ((.slice (some ⟨g,0,none⟩) n cap)) rfl hq0 ?_
     simp only [ps]
     refine tLp 9 ((.int .i64 (i:Int))) rfl hq0 ?_
     simp only [ps]
     refine tL 10 ((.pointer (some ⟨g,i,none⟩))) rfl (Or.inl ⟨rfl,fun W' _=>by go_simp <;> (intro h; omega)⟩) hq0 ?_
     simp only [ps]
     refine tL 11 (_) rfl (yieldsIf_cell rfl 3 _ rfl ⟨g,i,none⟩ rfl (.int .i64 x) _ (fun W' hW'=>(show W'.cell? ⟨g,i,none⟩=_ from (NU.out.ext hW').cell (by omega)).trans (by rw [hvi])) Try.underlying3 rfl) hq0 ?_
     simp only [ps]
     refine runG (i:=12) rfl (by rfl) (by kernel_rfl) (fun K hK=>?_)
     go_simp
     refine (less_ext v x _).mono ?_
     rintro e wc1 ⟨rfl,hx⟩
     have hq1:=hq0.trans hx
     refine hK.out _ _ hq1 (fun hHeld=>?_)
     try simp only [ps]
     clear hK K hHeld
     refine tL 13 ((.bool (!(decide (v < x))))) rfl (Or.inl ⟨rfl,fun W' _=>by go_simp⟩) hq1 ?_
     simp only [ps]
     refine tLp 14 ((.bool (!(decide (v < x))))) rfl hq1 ?_
     simp only [ps]
     refine wpAnyH_done (by kernel_rfl) ?_ _
     have NU2:=Lib.hid (NU.out.ext hq1)
     have MU2:=Lib.hid (MU.out.trans (hq1.mut (fun k=>k=g)))
     clear hq0 hqx hq1
     generalize hwn0:wc1=w5 at *
     go_wp2_with fail
     go_meet
     exact ⟨congrArg Value.bool (by rw [← HC.out,decide_eq_true hij,PRu.out,arr_at l (by omega),hvi]; rfl),NU2.out,MU2.out⟩
    ·have dij:decide ((i:Int)≤(j0:Int))=false:=by simp; omega
     refine beginL (S:=fun W'=>Ext wl W') (by kernel_rfl) ?_
     intro wd hqx
     have hq0:Ext wl wd:=hqx
     refine tLp 0 ((.int .i64 (i:Int))) rfl hq0 ?_
     simp only [ps]
     refine tLp 1 ((.int .i64 (j0:Int))) rfl hq0 ?_
     simp only [ps]
     refine tL 2 ((.bool false)) rfl (Or.inl ⟨rfl,fun W' _=>by go_simp⟩) hq0 ?_
     simp only [ps]
     refine tLp 3 ((.bool false)) rfl hq0 ?_
     simp only [ps]
     refine tL 4 (undef) rfl (Or.inr ⟨rfl,rfl⟩) hq0 ?_
     simp only [ps]
     refine tL 5 (undef) rfl (Or.inr ⟨rfl,rfl⟩) hq0 ?_
     simp only [ps]
     refine tL 6 (undef) rfl (Or.inr ⟨rfl,rfl⟩) hq0 ?_
     simp only [ps]
     refine tL 7 (undef) rfl (Or.inr ⟨rfl,rfl⟩) hq0 ?_
     simp only [ps]
     refine tL 8 (undef) rfl (Or.inr ⟨rfl,rfl⟩) hq0 ?_
     simp only [ps]
     refine tL 9 (undef) rfl (Or.inr ⟨rfl,rfl⟩) hq0 ?_
     simp only [ps]
     refine tL 10 (undef) rfl (Or.inr ⟨rfl,rfl⟩) hq0 ?_
     simp only [ps]
     refine tL 11 (undef) rfl (Or.inr ⟨rfl,rfl⟩) hq0 ?_
     simp only [ps]
     refine tL 12 (undef) rfl (Or.inr ⟨rfl,rfl⟩) hq0 ?_
     simp only [ps]
     refine tL 13 (undef) rfl (Or.inr ⟨rfl,rfl⟩) hq0 ?_
     simp only [ps]
     refine tLp 14 ((.bool false)) rfl hq0 ?_
     simp only [ps]
     refine wpAnyH_done (by kernel_rfl) ?_ _
     have NU2:=Lib.hid (NU.out.ext hq0)
     have MU2:=Lib.hid (MU.out.trans (hq0.mut (fun k=>k=g)))
     clear hq0 hqx
     generalize hwn0:wd=w5 at *
     go_wp2_with fail
     go_meet
     exact ⟨congrArg Value.bool (by rw [← HC.out,decide_eq_false hij]; rfl),NU2.out,MU2.out⟩
   case rest =>
    obtain ⟨rfl,hnu,hmu⟩:=hcut
    have NU2:=Lib.hid hnu
    have MU2:=Lib.hid hmu
    clear hnu hmu NU MU
    rename World=>wx
    cases c with
    | true =>
     have hij:i≤j0:=by
      have:=HC.out
      rw [Bool.and_eq_true,decide_eq_true_eq] at this
      exact this.1
     have SC2:=Lib.hid (show Go.Sort.scanUp pru l.toArray j0 (i+1)=IJu from by rw [← SC.out]; exact (sup_go _ _ _ _ HC.out).symm)
     obtain ⟨i1,hv1⟩:∃ i1,i+1=i1:=⟨_,rfl⟩
     rw [hv1] at SC2
     have LB2:=Lib.hid (show (a1≤i1∧i1≤j0+2∧j0 < n)∧i < i1 from by have:=LB.out; have:=HA1.out; omega)
     have hup:IntKind.i64.wrap ((i:Int)+1)=(i1:Int):=by have:=LB.out; have:=HA1.out; rw [IntKind.wrap_i64]; omega
     clear hv1
     go_wp2_with fail
     go_roundw
     case rel=>exact ⟨i1,rfl,LB2.out.1,NU2.out,SC2.out,MU2.out⟩
     case measure=>have:=LB.out; have:=LB2.out; simp [intOf] <;> omega
    | false =>
     have HEu:=Lib.hid (show IJu=i from SC.out.symm.trans (sup_stop _ _ _ _ HC.out))
     have NU:=NU2
     have MU:=MU2
     clear SC HC NU2 MU2
     have HSd:=Lib.hid (show Go.Sort.scanDown prd l.toArray i j0=IJd from by rw [← HEu.out]; exact HSd.out)
     have LB:=Lib.hid (show a1≤i∧i≤j0+2∧j0 < n∧j0≤j0 from by have:=LB.out; omega)
     go_wp2_with fail
     go_loopw [10] (fun s wr=>∃ j:Nat,s=.int .i64 j∧(a1≤i∧i≤j+2∧j < n∧j≤j0)∧Nums wr g l∧Go.Sort.scanDown prd l.toArray i j=IJd∧Mut (fun k=>k=g) w wr) (fun s _=>(intOf s).toNat)
     case atStart=>exact ⟨j0,rfl,by have:=LB.out; omega,NU.out,HSd.out,MU.out⟩
     case round =>
      clear HSd LB NU MU
      obtain ⟨j,rfl,hlb,hnu,hsc,hmu⟩:=hrel
      rename World=>wl
      have LB:=Lib.hid hlb
      have NU:=Lib.hid hnu
      have MU:=Lib.hid hmu
      have SC:=Lib.hid hsc
      clear hlb hnu hmu hsc
      obtain ⟨c,hc⟩:∃ c,(decide (i≤j) && prd l.toArray[j]!)=c:=⟨_,rfl⟩
      have HC:=Lib.hid hc
      clear hc
      go_upto_region 5 with fail
      go_cut [59] from 46 to 61 (fun s wx=>s=.bool c∧Nums wx g l∧Mut (fun k=>k=g) w wx)
      case first =>
       by_cases hij:i≤j
       ·have dij:decide ((i:Int)≤(j:Int))=true:=by simp; omega
        have hin:j < n:=by have:=LB.out; omega
        obtain ⟨x,hvj⟩:∃ x,at0 l j=x:=⟨_,rfl⟩
        refine beginL (S:=fun W'=>Ext wl W') (by kernel_rfl) ?_
        intro wd hqx
        have hq0:Ext wl wd:=hqx
        refine tLp 0 ((.int .i64 (i:Int))) rfl hq0 ?_
        simp only [ps]
        refine tLp 1 ((.int .i64 (j:Int))) rfl hq0 ?_
        simp only [ps]
        refine tL 2 ((.bool true)) rfl (Or.inl ⟨rfl,fun W' _=>by go_simp⟩) hq0 ?_
        simp only [ps]
        refine tLp 3 ((.bool true)) rfl hq0 ?_
        simp only [ps]
        refine tLp 4 ((.slice (some ⟨g,0,none⟩) n cap)) rfl hq0 ?_
        simp only [ps]
        refine tLp 5 ((.int .i64 (a:Int))) rfl hq0 ?_
        simp only [ps]
        refine tL 6 ((.pointer (some ⟨g,a,none⟩))) rfl (Or.inl ⟨rfl,fun W' _=>by go_simp <;> (intro h; omega)⟩) hq0 ?_
        simp only [ps]
        refine tL 7 (_) rfl (yieldsIf_cell rfl 3 _ rfl ⟨g,a,none⟩ rfl (.int .i64 v) _ (fun W' hW'=>(show W'.cell? ⟨g,a,none⟩=_ from (NU.out.ext hW').cell (by omega)).trans (by rw [hva])) Try.underlying3 rfl) hq0 ?_
        simp only [ps]
        refine tLp 8 ((.slice (some ⟨g,0,none⟩) n cap)) rfl hq0 ?_
        simp only [ps]
        refine tLp 9 ((.int .i64 (j:Int))) rfl hq0 ?_
        simp only [ps]
        refine tL 10 ((.pointer (some ⟨g,j,none⟩))) rfl (Or.inl ⟨rfl,fun W' _=>by go_simp <;> (intro h; omega)⟩) hq0 ?_
        simp only [ps]
        refine tL 11 (_) rfl (yieldsIf_cell rfl 3 _ rfl ⟨g,j,none⟩ rfl (.int .i64 x) _ (fun W' hW'=>(show W'.cell? ⟨g,j,none⟩=_ from (NU.out.ext hW').cell (by omega)).trans (by rw [hvj])) Try.underlying3 rfl) hq0 ?_
        simp only [ps]
        refine runG (i:=12) rfl (by rfl) (by kernel_rfl) (fun K hK=>?_)
        go_simp
        refine (less_ext v x _).mono ?_
        rintro e wc1 ⟨rfl,hx⟩
        have hq1:=hq0.trans hx
        refine hK.out _ _ hq1 (fun hHeld=>?_)
        try simp only [ps]
        clear hK K hHeld
        refine tLp 13 ((.bool (decide (v < x)))) rfl hq1 ?_
        simp only [ps]
        refine wpAnyH_done (by kernel_rfl) ?_ _
        have NU2:=Lib.hid (NU.out.ext hq1)
        have MU2:=Lib.hid (MU.out.trans (hq1.mut (fun k=>k=g)))
        clear hq0 hqx hq1
        generalize hwn0:wc1=w5 at *
        go_wp2_with fail
        go_meet
        exact ⟨congrArg Value.bool (by rw [← HC.out,decide_eq_true hij,PRd.out,arr_at l (by omega),hvj]; rfl),NU2.out,MU2.out⟩
       ·have dij:decide ((i:Int)≤(j:Int))=false:=by simp; omega
        refine beginL (S:=fun W'=>Ext wl W') (by kernel_rfl) ?_
        intro wd hqx
        have hq0:Ext wl wd:=hqx
        refine tLp 0 ((.int .i64 (i:Int))) rfl hq0 ?_
        simp only [ps]
        refine tLp 1 ((.int .i64 (j:Int))) rfl hq0 ?_
        simp only [ps]
        refine tL 2 ((.bool false)) rfl (Or.inl ⟨rfl,fun W' _=>by go_simp⟩) hq0 ?_
        simp only [ps]
        refine tLp 3 ((.bool false)) rfl hq0 ?_
        simp only [ps]
        refine tL 4 (undef) rfl (Or.inr ⟨rfl,rfl⟩) hq0 ?_
        simp only [ps]
        refine tL 5 (undef) rfl (Or.inr ⟨rfl,rfl⟩) hq0 ?_
        simp only [ps]
        refine tL 6 (undef) rfl (Or.inr ⟨rfl,rfl⟩) hq0 ?_
        simp only [ps]
        refine tL 7 (undef) rfl (Or.inr ⟨rfl,rfl⟩) hq0 ?_
        simp only [ps]
        refine tL 8 (undef) rfl (Or.inr ⟨rfl,rfl⟩) hq0 ?_
        simp only [ps]
        refine tL 9 (undef) rfl (Or.inr ⟨rfl,rfl⟩) hq0 ?_
        simp only [ps]
        refine tL 10 (undef) rfl (Or.inr ⟨rfl,rfl⟩) hq0 ?_
        simp only [ps]
        refine tL 11 (undef) rfl (Or.inr ⟨rfl,rfl⟩) hq0 ?_
        simp only [ps]
        refine tL 12 (undef) rfl (Or.inr ⟨rfl,rfl⟩) hq0 ?_
        simp only [ps]
        refine tLp 13 ((.bool false)) rfl hq0 ?_
        simp only [ps]
        refine wpAnyH_done (by kernel_rfl) ?_ _
        have NU2:=Lib.hid (NU.out.ext hq0)
        have MU2:=Lib.hid (MU.out.trans (hq0.mut (fun k=>k=g)))
        clear hq0 hqx
        generalize hwn0:wd=w5 at *
        go_wp2_with fail
        go_meet
        exact ⟨congrArg Value.bool (by rw [← HC.out,decide_eq_false hij]; rfl),NU2.out,MU2.out⟩
      case rest =>
       obtain ⟨rfl,hnu,hmu⟩:=hcut
       have NU2:=Lib.hid hnu
       have MU2:=Lib.hid hmu
       clear hnu hmu NU MU
       rename World=>wx
       cases c with
       | true =>
        have hij:i≤j:=by
         have:=HC.out
         rw [Bool.and_eq_true,decide_eq_true_eq] at this
         exact this.1
        have SC2:=Lib.hid (show Go.Sort.scanDown prd l.toArray i (j - 1)=IJd from by rw [← SC.out]; exact (sdn_go _ _ _ _ HC.out).symm)
        obtain ⟨j1,hv1⟩:∃ j1,j - 1=j1:=⟨_,rfl⟩
        rw [hv1] at SC2
        have LB2:=Lib.hid (show (a1≤i∧i≤j1+2∧j1 < n∧j1≤j0)∧j1 < j from by have:=LB.out; have:=HA1.out; omega)
        have hup:IntKind.i64.wrap ((j:Int) - 1)=(j1:Int):=by have:=LB.out; have:=HA1.out; rw [IntKind.wrap_i64]; omega
        clear hv1
        go_wp2_with fail
        go_roundw
        case rel=>exact ⟨j1,rfl,LB2.out.1,NU2.out,SC2.out,MU2.out⟩
        case measure=>have:=LB.out; have:=LB2.out; simp [intOf] <;> omega
       | false =>
        have HEd:=Lib.hid (show IJd=j from SC.out.symm.trans (sdn_stop _ _ _ _ HC.out))
        have NU:=NU2
        have MU:=MU2
        clear SC HC NU2 MU2
        by_cases hgt:i > j
        ·have dgt:decide ((i:Int) > (j:Int))=true:=by simp; omega
         have dgt2:decide ((j:Int) < (i:Int))=true:=by simp; omega
         go_wp2_with fail
         go_ret
         refine ⟨i,l.toArray,rfl,?_,l,NU.out,hln,rfl,MU.out⟩
         have h1:=EQ.out
         rw [HEu.out,HEd.out,if_pos hgt] at h1
         rw [HRR.out,← HR.out,h1]
        ·have hjn:j < n:=by have:=LB.out; omega
         have dgt:decide ((i:Int) > (j:Int))=false:=by simp; omega
         have dgt2:decide ((j:Int) < (i:Int))=false:=by simp; omega
         have EQ2:Go.Sort.partEqLoop ltI a (i+1) (j - 1) (swl l i j).toArray=R:=by
          have h1:=EQ.out
          rw [HEu.out,HEd.out,if_neg hgt,HR.out] at h1
          rw [swl_arr l (by omega) (by omega)]
          exact h1.symm
         obtain ⟨i1,hi1⟩:∃ i1,i+1=i1:=⟨_,rfl⟩
         obtain ⟨j1,hj1⟩:∃ j1,j - 1=j1:=⟨_,rfl⟩
         have hup:IntKind.i64.wrap ((i:Int)+1)=(i1:Int):=by have:=LB.out; rw [IntKind.wrap_i64]; omega
         have hdn:IntKind.i64.wrap ((j:Int) - 1)=(j1:Int):=by have:=LB.out; have:=HA1.out; rw [IntKind.wrap_i64]; omega
         have LB2:=Lib.hid (show (a1≤i1∧i1≤j1+2∧j1 < n)∧j1 < j0 from by have:=LB.out; have:=HA1.out; omega)
         rw [hi1,hj1] at EQ2
         clear hi1 hj1
         have EQ3:=Lib.hid EQ2
         clear EQ2 EQ HR HEu HEd
         go_wp2_with fail
         obtain ⟨x,hvp⟩:∃ x,at0 l i=x:=⟨_,rfl⟩
         obtain ⟨y,hvq⟩:∃ y,at0 l j=y:=⟨_,rfl⟩
         refine beginZ (S:=fun W'=>Ext wx W') 13 (by kernel_rfl) ?_
         intro wd hqx
         have hq0:Ext wx wd:=hqx
         refine takeY (i:=0) (z:=13) (v:=(.slice (some ⟨g,0,none⟩) n cap)) rfl (by kernel_rfl) (by kernel_rfl) (by kernel_rfl) (by kernel_rfl) (fun _ _ _ h=>h) (Or.inl ⟨rfl,fun _ _=>rfl⟩) hq0 ?_
         simp only [ps]
         refine takeY (i:=1) (z:=13) (v:=(.int .i64 (i:Int))) rfl (by kernel_rfl) (by kernel_rfl) (by kernel_rfl) (by kernel_rfl) (fun _ _ _ h=>h) (Or.inl ⟨rfl,fun _ _=>rfl⟩) hq0 ?_
         simp only [ps]
         refine takeY (i:=2) (z:=13) (v:=(.slice (some ⟨g,0,none⟩) n cap)) rfl (by kernel_rfl) (by kernel_rfl) (by kernel_rfl) (by kernel_rfl) (fun _ _ _ h=>h) (Or.inl ⟨rfl,fun _ _=>rfl⟩) hq0 ?_
         simp only [ps]
         refine takeY (i:=3) (z:=13) (v:=(.int .i64 (j:Int))) rfl (by kernel_rfl) (by kernel_rfl) (by kernel_rfl) (by kernel_rfl) (fun _ _ _ h=>h) (Or.inl ⟨rfl,fun _ _=>rfl⟩) hq0 ?_
         simp only [ps]
         refine takeY (i:=4) (z:=13) (v:=(.slice (some ⟨g,0,none⟩) n cap)) rfl (by kernel_rfl) (by kernel_rfl) (by kernel_rfl) (by kernel_rfl) (fun _ _ _ h=>h) (Or.inl ⟨rfl,fun _ _=>rfl⟩) hq0 ?_
         simp only [ps]
         refine takeY (i:=5) (z:=13) (v:=(.int .i64 (j:Int))) rfl (by kernel_rfl) (by kernel_rfl) (by kernel_rfl) (by kernel_rfl) (fun _ _ _ h=>h) (Or.inl ⟨rfl,fun _ _=>rfl⟩) hq0 ?_
         simp only [ps]
         refine takeY (i:=6) (z:=13) (v:=(.pointer (some ⟨g,j,none⟩))) rfl (by kernel_rfl) (by kernel_rfl) (by kernel_rfl) (by kernel_rfl) (fun _ _ _ h=>h) (Or.inl ⟨rfl,fun W' _=>by go_simp <;> (intro h; omega)⟩) hq0 ?_
         simp only [ps]
         refine takeZ (i:=7) (z:=13) (v:=_) rfl rfl (by kernel_rfl) (by kernel_rfl) (by kernel_rfl) (by kernel_rfl) (by kernel_rfl) (by kernel_rfl) (fun _ _ _ h=>h) (yieldsIf_cell rfl 3 _ rfl ⟨g,j,none⟩ rfl (.int .i64 y) _ (fun W' hW'=>(show W'.cell? ⟨g,j,none⟩=_ from (NU.out.ext hW').cell (by omega)).trans (by rw [hvq])) Try.underlying3 rfl) hq0 ?_
         simp only [ps]
         refine takeY (i:=8) (z:=13) (v:=(.slice (some ⟨g,0,none⟩) n cap)) rfl (by kernel_rfl) (by kernel_rfl) (by kernel_rfl) (by kernel_rfl) (fun _ _ _ h=>h) (Or.inl ⟨rfl,fun _ _=>rfl⟩) hq0 ?_
         simp only [ps]
         refine takeY (i:=9) (z:=13) (v:=(.int .i64 (i:Int))) rfl (by kernel_rfl) (by kernel_rfl) (by kernel_rfl) (by kernel_rfl) (fun _ _ _ h=>h) (Or.inl ⟨rfl,fun _ _=>rfl⟩) hq0 ?_
         simp only [ps]
         refine takeY (i:=10) (z:=13) (v:=(.pointer (some ⟨g,i,none⟩))) rfl (by kernel_rfl) (by kernel_rfl) (by kernel_rfl) (by kernel_rfl) (fun _ _ _ h=>h) (Or.inl ⟨rfl,fun W' _=>by go_simp <;> (intro h; omega)⟩) hq0 ?_
         simp only [ps]
         refine takeZ (i:=11) (z:=13) (v:=_) rfl rfl (by kernel_rfl) (by kernel_rfl) (by kernel_rfl) (by kernel_rfl) (by kernel_rfl) (by kernel_rfl) (fun _ _ _ h=>h) (yieldsIf_cell rfl 3 _ rfl ⟨g,i,none⟩ rfl (.int .i64 x) _ (fun W' hW'=>(show W'.cell? ⟨g,i,none⟩=_ from (NU.out.ext hW').cell (by omega)).trans (by rw [hvp])) Try.underlying3 rfl) hq0 ?_
         simp only [ps]
         refine takeY (i:=12) (z:=13) (v:=(.pointer (some ⟨g,i,none⟩))) rfl (by kernel_rfl) (by kernel_rfl) (by kernel_rfl) (by kernel_rfl) (fun _ _ _ h=>h) (Or.inl ⟨rfl,fun W' _=>by go_simp <;> (intro h; omega)⟩) hq0 ?_
         simp only [ps]
         refine runZl (z:=13) rfl rfl (by kernel_rfl) (fun K hK=>?_)
         have hce:=(NU.out.ext hq0)
         have hc1:wd.cell? ⟨g,i,none⟩=some (.int .i64 (at0 l (i))):=hce.cell (by omega)
         have hf1:=hce.froz (i)
         go_simp
         refine hK.out _ _ ?_
         try simp only [ps]
         clear hK K hc1 hf1
         have hce2:=hce.set (p:=i) (by omega) (at0 l (j))
         rw [hvq] at hce2
         have hq9:=(hq0.mut (fun k=>k=g)).setCell (p:=⟨g,i,none⟩) (.inl rfl) (.int .i64 y)
         refine tL 14 ((.pointer (some ⟨g,j,none⟩))) rfl (Or.inl ⟨rfl,fun W' _=>by go_simp <;> (intro h; omega)⟩) trivial ?_
         simp only [ps]
         refine runL (i:=15) rfl rfl (by kernel_rfl) (fun K hK=>?_)
         have hc2:(wd.setCell ⟨g,i,none⟩ (.int .i64 y)).cell? ⟨g,j,none⟩=some (.int .i64 (at0 (l.set (i) y) (j))):=hce2.cell (by simp; omega)
         have hf2:=hce2.froz (j)
         go_simp
         refine hK.out _ _ trivial (fun _=>?_)
         try simp only [ps]
         clear hK K hc2 hf2
         refine wpAnyH_done (by kernel_rfl) ?_ _
         have hce3:=hce2.set (p:=j) (by simp; omega) (at0 l (i))
         rw [hvp] at hce3
         have NU3:=Lib.hid (show Nums _ g (swl l (i) (j)) from by unfold swl; rw [hvp,hvq]; exact hce3)
         have MU3:=Lib.hid (hq9.setCell (p:=⟨g,j,none⟩) (.inl rfl) (.int .i64 x))
         clear hce hce2 hce3 hq9 hq0 hqx
         generalize (wd.setCell ⟨g,i,none⟩ (.int .i64 y)).setCell ⟨g,j,none⟩ (.int .i64 x)=wm at *
         clear hvp hvq
         go_wp2_with fail
         go_roundw
         case rel=>exact ⟨i1,j1,swl l i j,rfl,rfl,LB2.out.1,NU3.out,by rw [swl_len]; exact hln,EQ3.out,MU.out.trans MU3.out⟩
         case measure=>have:=LB2.out; simp [intOf] <;> omega
end Go.Proofs.Ytamnmjckhicapaa
namespace Go.Proofs.Ytamnmjckhicapaa
open Go.RowKit Go.BigFrame Go.WideShapes Go.ChangeShapes Go.Deep
set_option linter.unusedVariables false
set_option linter.unusedSimpArgs false
set_option maxRecDepth 100000
open Go.Sort (PermIn SortedIn Below permIn_trans permIn_refl)
set_option maxRecDepth 100000
def RestP (A B:Nat) (D:Array Int) (a b:Nat) (l:List Int):Prop:=Go.Sort.Below ltI a b l.toArray∧∀ R,PermIn a b l.toArray R→SortedIn ltI a b R→PermIn A B D R∧SortedIn ltI A B R
theorem RestP.start {a b:Nat} {l:List Int} (h:Go.Sort.Below ltI a b l.toArray):RestP a b l.toArray a b l:=⟨h,fun _ hp hs=>⟨hp,hs⟩⟩
theorem RestP.perm {A B:Nat} {D:Array Int} {a b:Nat} {l l':List Int} (h:RestP A B D a b l) (hb:b≤l.length) (hp:PermIn a b l.toArray l'.toArray):RestP A B D a b l' :=
 ⟨Go.Sort.Below.perm h.1 (by simpa using hb) hp,fun R hR hs=>h.2 R (permIn_trans _ _ _ a b hp hR) hs⟩
theorem RestP.eq {A B:Nat} {D:Array Int} {a b pv mid:Nat} {d4:Array Int} {l l':List Int} (h:RestP A B D a b l) (ha:0 < a) (h1:a≤pv) (h2:pv < b) (hb:b≤l.length) (hnl:ltI l.toArray[a - 1]! l.toArray[pv]! = false)
    (hx:Go.Sort.partitionEqual ltI l.toArray a b pv=(mid,d4)) (hl:l'.toArray=d4):a < mid∧mid≤b∧RestP A B D mid b l':=by
 subst hl
 obtain ⟨g1,g2,_,g4,g5⟩:=Go.Sort.round_eq Go.Sort.swo_ltInt (Go.Sort.partitionEqual_holds _) ha h1 h2 (by simpa using hb) h.1 hnl hx
 exact ⟨g1,g2,g4,fun R hR hs=>let ⟨p,s⟩:=g5 R hR hs; h.2 R p s⟩
theorem RestP.part {A B:Nat} {D:Array Int} {a b pv mid:Nat} {ap:Bool} {d4:Array Int} {l l':List Int} (h:RestP A B D a b l) (h1:a≤pv) (h2:pv < b) (hb:b≤l.length)
    (hx:Go.Sort.partition ltI l.toArray a b pv=(mid,ap,d4)) (hl:l'.toArray=d4):a≤mid∧mid < b∧Go.Sort.Below ltI a mid l'.toArray∧Go.Sort.Below ltI (mid+1) b l'.toArray ∧
     (∀ L:List Int,PermIn a mid l'.toArray L.toArray→SortedIn ltI a mid L.toArray→RestP A B D (mid+1) b L)∧(∀ L:List Int,PermIn (mid+1) b l'.toArray L.toArray→SortedIn ltI (mid+1) b L.toArray→RestP A B D a mid L):=by
 subst hl
 obtain ⟨g1,g2,_,g4,g5,g6,g7⟩:=Go.Sort.round_part Go.Sort.swo_ltInt (Go.Sort.partition_holds _) h1 h2 (by simpa using hb) h.1 hx
 exact ⟨g1,g2,g4,g5,fun L hp hs=>⟨(g6 L.toArray hp hs).1,fun R hR hs2=>let ⟨p,s⟩:=(g6 L.toArray hp hs).2 R hR hs2; h.2 R p s⟩,fun L hp hs=>⟨(g7 L.toArray hp hs).1,fun R hR hs2=>let ⟨p,s⟩:=(g7 L.toArray hp hs).2 R hR hs2; h.2 R p s⟩⟩
theorem rest_ins {A B:Nat} {D:Array Int} {a b:Nat} {l l':List Int} (h:RestP A B D a b l) (hab:a≤b) (hb:b≤l.length) (hl:l'.toArray=Go.Sort.insertionSort ltI l.toArray a b):PermIn A B D l'.toArray∧SortedIn ltI A B l'.toArray:=by
 obtain ⟨p,s⟩:=Go.Sort.insertionSort_holds Go.Sort.swo_ltInt l.toArray a b hab (by simpa using hb)
 rw [← hl] at p s
 exact h.2 _ p s
theorem rest_heap {A B:Nat} {D:Array Int} {a b:Nat} {l l':List Int} (h:RestP A B D a b l) (hab:a≤b) (hb:b≤l.length) (hl:l'.toArray=Go.Sort.heapSort ltI l.toArray a b):PermIn A B D l'.toArray∧SortedIn ltI A B l'.toArray:=by
 obtain ⟨p,s⟩:=Go.Sort.heapSort_holds Go.Sort.swo_ltInt l.toArray a b hab (by simpa using hb)
 rw [← hl] at p s
 exact h.2 _ p s
theorem rest_brk {A B:Nat} {D:Array Int} {a b:Nat} {l l':List Int} (h:RestP A B D a b l) (hab:a≤b) (hb:b≤l.length) (hl:l'.toArray=Go.Sort.breakPatterns l.toArray a b):RestP A B D a b l' :=
 h.perm hb (by rw [hl]; exact Go.Sort.breakPatterns_holds l.toArray a b hab (by simpa using hb))
theorem rest_rev {A B:Nat} {D:Array Int} {a b:Nat} {l l':List Int} (h:RestP A B D a b l) (hab:a≤b) (hb:b≤l.length) (hl:l'.toArray=Go.Sort.reverseRange l.toArray a b):RestP A B D a b l' :=
 h.perm hb (by rw [hl]; exact Go.Sort.reverseRange_holds l.toArray a b hab (by simpa using hb))
theorem rest_pins {A B:Nat} {D:Array Int} {a b:Nat} {ok:Bool} {d':Array Int} {l l':List Int} (h:RestP A B D a b l) (hab:a < b) (hb:b≤l.length) (hx:Go.Sort.partialInsertionSort ltI l.toArray a b=(d',ok)) (hl:l'.toArray=d') :
    RestP A B D a b l'∧(ok=true→PermIn A B D l'.toArray∧SortedIn ltI A B l'.toArray):=by
 obtain ⟨p,s⟩:=Go.Sort.partialInsertionSort_holds Go.Sort.swo_ltInt l.toArray a b hab (by simpa using hb) h.1
 rw [hx] at p s
 rw [← hl] at p s
 exact ⟨h.perm hb p,fun ho=>h.2 _ p (s ho)⟩
def SortP (w:World) (g n a b:Nat) (D:Array Int) (w':World):Prop:=∃ l,Nums w' g l∧l.length=n∧(PermIn a b D l.toArray∧SortedIn ltI a b l.toArray)∧Mut (fun k=>k=g) w w'
end Go.Proofs.Ytamnmjckhicapaa
namespace Go.Proofs.Ytamnmjckhicapaa
open Go.RowKit Go.BigFrame Go.WideShapes Go.ChangeShapes Go.Deep
set_option linter.unusedVariables false
set_option linter.unusedSimpArgs false
set_option maxRecDepth 100000
open Go.Sort (PermIn SortedIn)
set_option maxRecDepth 100000
set_option maxRecDepth 100000 in
set_option maxHeartbeats 4000000 in
theorem pdqx_any (g n cap:Nat) (hn:n≤60) (m:Nat):∀ (w:World) (l0:List Int) (A B lim:Nat) (_:B - A=m) (_:B≤n) (_:A≤B) (_:Go.Sort.Below ltI A B l0.toArray) (_:lim≤6) (_:Nums w g l0) (_:l0.length=n),
    Calls Try.prog 72 #[(.slice (some ⟨g,0,none⟩) n cap),.int .i64 A,.int .i64 B,.int .i64 lim] w fun e w'=>e=.returned (.tuple #[])∧SortP w g n A B l0.toArray w':=by
 induction m using Nat.strongRecOn with
 | _ m ih =>
 intro w l0 A B lim0 hm hB hAB hbel hlim0 hnu0 hln0
 have IH:=Lib.hid ih
 have H0:=Lib.hid (show ∃ l:List Int,Nums w g l∧l.length=n∧RestP A B l0.toArray A B l∧Mut (fun k=>k=g) w w from ⟨l0,hnu0,hln0,RestP.start hbel,Mut.refl _ w⟩)
 obtain ⟨D,hD⟩:∃ D,l0.toArray=D:=⟨_,rfl⟩
 rw [hD] at H0
 have HD:=Lib.hid hD
 have HM:=Lib.hid hm
 clear ih hbel hnu0 hln0 hD hm
 go_enter Try.func72,Try.ntmps72
 go_wp2_with fail
 go_loopw [1,2,3,8,9] (fun sa sb sl s8 s9 wr=>∃ (a b lim:Nat) (wb wp:Bool) (l:List Int),sa=.int .i64 a∧sb=.int .i64 b∧sl=.int .i64 lim∧s8=.bool wb∧s9=.bool wp∧(a≤b∧b≤n∧b - a≤B - A∧lim≤6)∧Nums wr g l∧l.length=n∧RestP A B D a b l∧Mut (fun k=>k=g) w wr) (fun sa sb _ _ _ _=>(intOf sb - intOf sa).toNat)
 case atStart =>
  obtain ⟨l,q1,q2,q3,q4⟩:=H0.out
  exact ⟨A,B,lim0,true,true,l,rfl,rfl,rfl,rfl,rfl,⟨hAB,hB,Nat.le_refl _,hlim0⟩,q1,q2,q3,q4⟩
 case round =>
  clear H0
  obtain ⟨a,b,lim,wb,wp,l,rfl,rfl,rfl,rfl,rfl,⟨hab,hbn,hbB,hlim⟩,hnu,hln,hre,hmu⟩:=hrel
  rename World=>wl
  have NU:=Lib.hid hnu
  have MU:=Lib.hid hmu
  have RE:=Lib.hid hre
  clear hnu hmu hre
  obtain ⟨k,hk⟩:∃ k,b - a=k:=⟨_,rfl⟩
  have hwk:IntKind.i64.wrap ((b:Int) - (a:Int))=(k:Int):=by rw [IntKind.wrap_i64]; omega
  have HK:=Lib.hid hk
  have hkn:k≤60:=by omega
  by_cases h12:k≤12
  ·have d12:decide ((k:Int)≤12)=true:=by simp; omega
   clear hk
   go_wp2_with fail
   refine (insr_any wl g n cap l a b hab hbn (by omega) NU.out hln).mono ?_
   rintro e w5 ⟨rfl,l2,hnu2,hln2,hl2,hmu2⟩
   have NU2:=Lib.hid hnu2
   have MU2:=Lib.hid (MU.out.trans hmu2)
   have FI:=Lib.hid (rest_ins RE.out hab (by omega) hl2)
   clear hnu2 hmu2 hl2
   go_wp2_with fail
   refine bodyPost_ret (results_none rfl _ _ _) rfl ?_
   exact ⟨rfl,l2,NU2.out,hln2,by rw [HD.out]; exact FI.out,MU2.out⟩
  have d12:decide ((k:Int)≤12)=false:=by simp; omega
  have hab9:a < b:=by omega
  have hab12:a+12 < b:=by omega
  cases lim with
  | zero =>
   clear hk
   go_wp2_with fail
   refine (heap_any wl g n cap l a b hab9 hbn (by omega) NU.out hln).mono ?_
   rintro e w5 ⟨rfl,l2,hnu2,hln2,hl2,hmu2⟩
   have NU2:=Lib.hid hnu2
   have MU2:=Lib.hid (MU.out.trans hmu2)
   have FI:=Lib.hid (rest_heap RE.out hab (by omega) hl2)
   clear hnu2 hmu2 hl2
   go_wp2_with fail
   refine bodyPost_ret (results_none rfl _ _ _) rfl ?_
   exact ⟨rfl,l2,NU2.out,hln2,by rw [HD.out]; exact FI.out,MU2.out⟩
  | succ lim =>
  obtain ⟨lp,hlp⟩:∃ lp,lim+1=lp:=⟨_,rfl⟩
  have hwl:IntKind.i64.wrap ((lp:Int) - 1)=(lim:Int):=by rw [IntKind.wrap_i64]; omega
  have dl:((lp:Int) == 0)=false:=by simp; omega
  have dl2:decide ((lp:Int)=0)=false:=by simp; omega
  have hlim6:lim≤6:=by omega
  have hlp6:lp≤6:=by omega
  rw [hlp]
  clear hlp hk hlim
  go_upto_if 35 with fail
  go_cut [3] from 19 to 133 (fun s wx=>∃ lim:Nat,s=.int .i64 lim∧lim≤6∧∃ l:List Int,Nums wx g l∧l.length=n∧RestP A B D a b l∧Mut (fun k=>k=g) w wx)
  case first =>
   cases wb with
   | true =>
    go_wp2_with fail
    go_meet
    case rel=>exact ⟨lp,rfl,hlp6,l,NU.out,hln,RE.out,MU.out⟩
   | false =>
    go_wp2_with fail
    refine (brk_any wl g n cap l a b hab12 hbn hn NU.out hln).mono ?_
    rintro e w5 ⟨rfl,l2,hnu2,hln2,hl2,hmu2⟩
    have NU2:=Lib.hid hnu2
    have MU2:=Lib.hid (MU.out.trans hmu2)
    have RE2:=Lib.hid (rest_brk RE.out hab (by omega) hl2)
    clear hnu2 hmu2 hl2
    go_wp2_with fail
    go_meet
    case rel=>exact ⟨lim,rfl,hlim6,l2,NU2.out,hln2,RE2.out,MU2.out⟩
  case rest =>
  clear NU MU RE hln hlim6 hlp6 dl dl2 hwl
  clear l
  obtain ⟨lim,rfl,hlim,l,hnu,hln,hre,hmu⟩:=hcut
  rename World=>wx
  have NU:=Lib.hid hnu
  have MU:=Lib.hid hmu
  have RE:=Lib.hid hre
  clear hnu hmu hre
  go_wp2_with fail
  refine (pick_any wx g n cap l a b hab12 hbn (by omega) NU.out hln).mono ?_
  rintro e w4 ⟨x,ht,rfl,hx,hxt⟩
  have hpr:=Go.Sort.choosePivot_holds ltI l.toArray a b hab9
  rw [hx] at hpr
  dsimp only at hpr
  have NU2:=Lib.hid (NU.out.ext hxt)
  have MU2:=Lib.hid (MU.out.trans (hxt.mut _))
  clear hx hxt NU MU
  go_upto_if 50 with fail
  go_cut [11,12] from 19 to 133 (fun s t wx=>∃ (pv:Nat) (ht:Go.Sort.Hint),s=.int .i64 pv∧t=.int .i64 (hintN ht)∧(a≤pv∧pv < b)∧∃ l:List Int,Nums wx g l∧l.length=n∧RestP A B D a b l∧Mut (fun k=>k=g) w wx)
  case first =>
   cases ht with
   | unknown =>
    go_wp2_with fail
    go_meet
    case rel=>exact ⟨x,.unknown,rfl,rfl,hpr,l,NU2.out,hln,RE.out,MU2.out⟩
   | increasing =>
    go_wp2_with fail
    go_meet
    case rel=>exact ⟨x,.increasing,rfl,rfl,hpr,l,NU2.out,hln,RE.out,MU2.out⟩
   | decreasing =>
    obtain ⟨pv,hpv⟩:∃ pv,(b - 1) - (x - a)=pv:=⟨_,rfl⟩
    have hpr2:a≤pv∧pv < b:=by omega
    have hpi:(b:Int) - 1 - ((x:Int) - (a:Int))=(pv:Nat):=by omega
    have HPI:=Lib.hid hpi
    clear hpv hpi
    go_wp2_with fail
    refine (rev_any w4 g n cap l a b hab9 hbn (by omega) NU2.out hln).mono ?_
    rintro e w5 ⟨rfl,l2,hnu2,hln2,hl2,hmu2⟩
    have NU3:=Lib.hid hnu2
    have MU3:=Lib.hid (MU2.out.trans hmu2)
    have RE3:=Lib.hid (rest_rev RE.out hab (by omega) hl2)
    clear hnu2 hmu2 hl2
    go_wp2_with fail
    try rw [HPI.out]
    go_meet
    case rel=>exact ⟨pv,.increasing,by first | rfl | (rw [HPI.out]),rfl,hpr2,l2,NU3.out,hln2,RE3.out,MU3.out⟩
  case rest =>
  clear NU2 MU2 RE hln hpr
  clear l
  obtain ⟨pv,ht,rfl,rfl,⟨hp1,hp2⟩,l,hnu,hln,hre,hmu⟩:=hcut
  rename World=>wx
  have NU:=Lib.hid hnu
  have MU:=Lib.hid hmu
  have RE:=Lib.hid hre
  clear hnu hmu hre
  go_upto_region 15 with fail
  go_cut [68] from 19 to 133 (fun s wx=>∃ c2:Bool,s=.bool c2∧∃ l:List Int,Nums wx g l∧l.length=n∧RestP A B D a b l∧Mut (fun k=>k=g) w wx)
  case first =>
   have NOP:Hid (∃ l:List Int,Nums wx g l∧l.length=n∧RestP A B D a b l∧Mut (fun k=>k=g) w wx):=Lib.hid ⟨l,NU.out,hln,RE.out,MU.out⟩
   cases wb with
   | false =>
    go_wp2_with fail
    go_meet
    case rel=>exact ⟨_,rfl,NOP.out⟩
   | true =>
    cases wp with
    | false =>
     go_wp2_with fail
     go_meet
     case rel=>exact ⟨_,rfl,NOP.out⟩
    | true =>
     cases ht with
     | unknown =>
      go_wp2_with fail
      go_meet
      case rel=>exact ⟨_,rfl,NOP.out⟩
     | decreasing =>
      go_wp2_with fail
      go_meet
      case rel=>exact ⟨_,rfl,NOP.out⟩
     | increasing =>
      go_wp2_with fail
      go_meet
      case rel=>exact ⟨_,rfl,NOP.out⟩
  case rest =>
  clear NU MU RE hln
  clear l
  obtain ⟨c2,rfl,l,hnu,hln,hre,hmu⟩:=hcut
  rename World=>wx
  have NU:=Lib.hid hnu
  have MU:=Lib.hid hmu
  have RE:=Lib.hid hre
  clear hnu hmu hre
  go_upto_if 68 with fail
  go_cut [13] from 19 to 133 (fun _ wx=>∃ l:List Int,Nums wx g l∧l.length=n∧RestP A B D a b l∧Mut (fun k=>k=g) w wx)
  case first =>
   have NOP:Hid (∃ l:List Int,Nums wx g l∧l.length=n∧RestP A B D a b l∧Mut (fun k=>k=g) w wx):=Lib.hid ⟨l,NU.out,hln,RE.out,MU.out⟩
   cases c2 with
   | false =>
    go_wp2_with fail
    go_meet
    case rel=>exact NOP.out
   | true =>
    go_wp2_with fail
    refine (pins_any wx g n cap l a b hab9 hbn (by omega) NU.out hln).mono ?_
    rintro e w5 ⟨ok,d',rfl,hx,l2,hnu2,hln2,hl2,hmu2⟩
    obtain ⟨hr2,hf2⟩:=rest_pins RE.out hab9 (by omega) hx hl2
    have NU2:=Lib.hid hnu2
    have MU2:=Lib.hid (MU.out.trans hmu2)
    have RE2:=Lib.hid hr2
    have FI:=Lib.hid hf2
    clear hnu2 hmu2 hl2 hr2 hf2 hx
    cases ok with
    | true =>
     go_wp2_with fail
     refine bodyPost_ret (results_none rfl _ _ _) rfl ?_
     exact ⟨rfl,l2,NU2.out,hln2,by rw [HD.out]; exact FI.out (by trivial),MU2.out⟩
    | false =>
     go_wp2_with fail
     go_meet
     case rel=>exact ⟨l2,NU2.out,hln2,RE2.out,MU2.out⟩
  case rest =>
  clear NU MU RE hln
  clear l
  obtain ⟨l,hnu,hln,hre,hmu⟩:=hcut
  rename World=>wx
  have NU:=Lib.hid hnu
  have MU:=Lib.hid hmu
  have RE:=Lib.hid hre
  clear hnu hmu hre
  obtain ⟨c,hc⟩:∃ c,(decide (0 < a) && !ltI l.toArray[a - 1]! l.toArray[pv]!)=c:=⟨_,rfl⟩
  have HC:=Lib.hid hc
  clear hc
  have hpn:pv < n:=by omega
  go_upto_region 17 with fail
  go_cut [87] from 19 to 133 (fun s wx=>s=.bool c∧Nums wx g l∧Mut (fun k=>k=g) w wx)
  case first =>
   by_cases ha:0 < a
   ·have dij:decide ((0:Int) < (a:Int))=true:=by simp; omega
    have dij2:decide ((a:Int) > (0:Int))=true:=by simp; omega
    obtain ⟨ap,hap⟩:∃ ap,a - 1=ap:=⟨_,rfl⟩
    have hap1:ap < n:=by omega
    have hdn:IntKind.i64.wrap ((a:Int) - 1)=(ap:Int):=by rw [IntKind.wrap_i64]; omega
    have HAP:=Lib.hid hap
    obtain ⟨x,hvp⟩:∃ x,at0 l ap=x:=⟨_,rfl⟩
    obtain ⟨y,hvq⟩:∃ y,at0 l pv=y:=⟨_,rfl⟩
    clear hap
    refine beginL (S:=fun W'=>Ext wx W') (by kernel_rfl) ?_
    intro wd hqx
    have hq0:Ext wx wd:=hqx
    refine tLp 0 ((.int .i64 (a:Int))) rfl hq0 ?_
    simp only [ps]
    refine tL 1 ((.bool true)) rfl (Or.inl ⟨rfl,fun W' _=>by go_simp⟩) hq0 ?_
    simp only [ps]
    refine tLp 2 ((.bool true)) rfl hq0 ?_
    simp only [ps]
    refine tLp 3 ((.slice (some ⟨g,0,none⟩) n cap)) rfl hq0 ?_
    simp only [ps]
    refine tLp 4 ((.int .i64 (a:Int))) rfl hq0 ?_
    simp only [ps]
    refine tL 5 ((.int .i64 (ap:Int))) rfl (Or.inl ⟨rfl,fun W' _=>by go_simp <;> (rw [IntKind.wrap_i64]; omega)⟩) hq0 ?_
    simp only [ps]
    refine tL 6 ((.pointer (some ⟨g,ap,none⟩))) rfl (Or.inl ⟨rfl,fun W' _=>by go_simp <;> (intro h; omega)⟩) hq0 ?_
    simp only [ps]
    refine tL 7 (_) rfl (yieldsIf_cell rfl 3 _ rfl ⟨g,ap,none⟩ rfl (.int .i64 x) _ (fun W' hW'=>(show W'.cell? ⟨g,ap,none⟩=_ from (NU.out.ext hW').cell (by omega)).trans (by rw [hvp])) Try.underlying3 rfl) hq0 ?_
    simp only [ps]
    refine tLp 8 ((.slice (some ⟨g,0,none⟩) n cap)) rfl hq0 ?_
    simp only [ps]
    refine tLp 9 ((.int .i64 (pv:Int))) rfl hq0 ?_
    simp only [ps]
    refine tL 10 ((.pointer (some ⟨g,pv,none⟩))) rfl (Or.inl ⟨rfl,fun W' _=>by go_simp <;> (intro h; omega)⟩) hq0 ?_
    simp only [ps]
    refine tL 11 (_) rfl (yieldsIf_cell rfl 3 _ rfl ⟨g,pv,none⟩ rfl (.int .i64 y) _ (fun W' hW'=>(show W'.cell? ⟨g,pv,none⟩=_ from (NU.out.ext hW').cell (by omega)).trans (by rw [hvq])) Try.underlying3 rfl) hq0 ?_
    simp only [ps]
    refine runG (i:=12) rfl (by rfl) (by kernel_rfl) (fun K hK=>?_)
    go_simp
    refine (less_ext x y _).mono ?_
    rintro e wc1 ⟨rfl,hx⟩
    have hq1:=hq0.trans hx
    refine hK.out _ _ hq1 (fun hHeld=>?_)
    try simp only [ps]
    clear hK K hHeld
    refine tL 13 ((.bool (!(decide (x < y))))) rfl (Or.inl ⟨rfl,fun W' _=>by go_simp⟩) hq1 ?_
    simp only [ps]
    refine tLp 14 ((.bool (!(decide (x < y))))) rfl hq1 ?_
    simp only [ps]
    refine wpAnyH_done (by kernel_rfl) ?_ _
    have NU2:=Lib.hid (NU.out.ext hq1)
    have MU2:=Lib.hid (MU.out.trans (hq1.mut (fun k=>k=g)))
    clear hq0 hqx hq1
    generalize hwn0:wc1=w5 at *
    go_wp2_with fail
    go_meet
    exact ⟨congrArg Value.bool (by rw [← HC.out,decide_eq_true ha,HAP.out,arr_at l (by omega),arr_at l (by omega),hvp,hvq]; rfl),NU2.out,MU2.out⟩
   ·have dij:decide ((0:Int) < (a:Int))=false:=by simp; omega
    have dij2:decide ((a:Int) > (0:Int))=false:=by simp; omega
    refine beginL (S:=fun W'=>Ext wx W') (by kernel_rfl) ?_
    intro wd hqx
    have hq0:Ext wx wd:=hqx
    refine tLp 0 ((.int .i64 (a:Int))) rfl hq0 ?_
    simp only [ps]
    refine tL 1 ((.bool false)) rfl (Or.inl ⟨rfl,fun W' _=>by go_simp⟩) hq0 ?_
    simp only [ps]
    refine tLp 2 ((.bool false)) rfl hq0 ?_
    simp only [ps]
    refine tL 3 (undef) rfl (Or.inr ⟨rfl,rfl⟩) hq0 ?_
    simp only [ps]
    refine tL 4 (undef) rfl (Or.inr ⟨rfl,rfl⟩) hq0 ?_
    simp only [ps]
    refine tL 5 (undef) rfl (Or.inr ⟨rfl,rfl⟩) hq0 ?_
    simp only [ps]
    refine tL 6 (undef) rfl (Or.inr ⟨rfl,rfl⟩) hq0 ?_
    simp only [ps]
    refine tL 7 (undef) rfl (Or.inr ⟨rfl,rfl⟩) hq0 ?_
    simp only [ps]
    refine tL 8 (undef) rfl (Or.inr ⟨rfl,rfl⟩) hq0 ?_
    simp only [ps]
    refine tL 9 (undef) rfl (Or.inr ⟨rfl,rfl⟩) hq0 ?_
    simp only [ps]
    refine tL 10 (undef) rfl (Or.inr ⟨rfl,rfl⟩) hq0 ?_
    simp only [ps]
    refine tL 11 (undef) rfl (Or.inr ⟨rfl,rfl⟩) hq0 ?_
    simp only [ps]
    refine tL 12 (undef) rfl (Or.inr ⟨rfl,rfl⟩) hq0 ?_
    simp only [ps]
    refine tL 13 (undef) rfl (Or.inr ⟨rfl,rfl⟩) hq0 ?_
    simp only [ps]
    refine tLp 14 ((.bool false)) rfl hq0 ?_
    simp only [ps]
    refine wpAnyH_done (by kernel_rfl) ?_ _
    have NU2:=Lib.hid (NU.out.ext hq0)
    have MU2:=Lib.hid (MU.out.trans (hq0.mut (fun k=>k=g)))
    clear hq0 hqx
    generalize hwn0:wd=w5 at *
    go_wp2_with fail
    go_meet
    exact ⟨congrArg Value.bool (by rw [← HC.out,decide_eq_false ha]; rfl),NU2.out,MU2.out⟩
  case rest =>
  obtain ⟨rfl,hnu,hmu⟩:=hcut
  clear NU MU
  have NU:=Lib.hid hnu
  have MU:=Lib.hid hmu
  clear hnu hmu
  rename World=>wx
  cases c with
  | true =>
   have hc2:0 < a∧ltI l.toArray[a - 1]! l.toArray[pv]! = false:=by
    have h:=HC.out
    rw [Bool.and_eq_true,decide_eq_true_eq] at h
    exact ⟨h.1,by simpa using h.2⟩
   have HC2:=Lib.hid hc2
   clear hc2 HC
   go_wp2_with fail
   refine (parte_any wx g n cap l a b pv hab9 hp1 hp2 hbn (by omega) NU.out hln).mono ?_
   rintro e w5 ⟨mid,d4,rfl,hx,l4,hnu4,hln4,hl4,hmu4⟩
   obtain ⟨g1,g2,hre⟩:=RE.out.eq HC2.out.1 hp1 hp2 (by omega) HC2.out.2 hx hl4
   have NU4:=Lib.hid hnu4
   have MU4:=Lib.hid (MU.out.trans hmu4)
   have RE4:=Lib.hid hre
   clear hx hl4 hnu4 hmu4 hre
   go_wp2_with fail
   go_roundw
   case rel=>exact ⟨mid,b,lim,_,_,l4,rfl,rfl,rfl,rfl,rfl,⟨g2,hbn,by omega,hlim⟩,NU4.out,hln4,RE4.out,MU4.out⟩
   case measure=>simp [intOf] <;> omega
  | false =>
   clear HC
   go_wp2_with fail
   refine (part_any wx g n cap l a b pv hab9 hp1 hp2 hbn (by omega) NU.out hln).mono ?_
   rintro e w5 ⟨mid,ap,d4,rfl,hx,l4,hnu4,hln4,hl4,hmu4⟩
   obtain ⟨g1,g2,hB1,hB2,hL,hR⟩:=RE.out.part hp1 hp2 (by omega) hx hl4
   have HL:=Lib.hid hL
   have HR:=Lib.hid hR
   have HB1:=Lib.hid hB1
   have HB2:=Lib.hid hB2
   have NU4:=Lib.hid hnu4
   have MU4:=Lib.hid (MU.out.trans hmu4)
   clear hx hl4 hnu4 hmu4 hL hR hB1 hB2 RE NU MU
   obtain ⟨m1,hm1⟩:∃ m1,mid+1=m1:=⟨_,rfl⟩
   have hw5:IntKind.i64.wrap ((mid:Int)+1)=(m1:Int):=by rw [IntKind.wrap_i64]; omega
   have HM1:=Lib.hid hm1
   have hm1n:m1≤n:=by omega
   have hm1b:m1≤b:=by omega
   have hma:a < m1:=by omega
   rw [hm1] at HR HL HB2
   clear hm1
   by_cases hside:mid - a < b - mid
   ·have ds:decide ((mid:Int) - (a:Int) < (b:Int) - (mid:Int))=true:=by simp; omega
    have hml:mid - a < b - a:=by omega
    go_wp2_with fail
    refine (IH.out (mid - a) (by have:=HM.out; omega) w5 l4 a mid lim rfl (by omega) g1 HB1.out hlim NU4.out hln4).mono ?_
    rintro e w6 ⟨rfl,l5,hnu5,hln5,⟨hp5,hs5⟩,hmu5⟩
    have NU5:=Lib.hid hnu5
    have MU5:=Lib.hid (MU4.out.trans hmu5)
    have RE5:=Lib.hid (HL.out l5 hp5 hs5)
    clear hnu5 hmu5 hp5 hs5
    go_wp2_with fail
    go_roundw
    case rel=>exact ⟨m1,b,lim,_,_,l5,rfl,rfl,rfl,rfl,rfl,⟨hm1b,hbn,by omega,hlim⟩,NU5.out,hln5,RE5.out,MU5.out⟩
    case measure=>simp [intOf] <;> omega
   ·have ds:decide ((mid:Int) - (a:Int) < (b:Int) - (mid:Int))=false:=by simp; omega
    go_wp2_with fail
    refine (IH.out (b - m1) (by have:=HM.out; have:=HM1.out; omega) w5 l4 m1 b lim rfl hbn hm1b HB2.out hlim NU4.out hln4).mono ?_
    rintro e w6 ⟨rfl,l5,hnu5,hln5,⟨hp5,hs5⟩,hmu5⟩
    have NU5:=Lib.hid hnu5
    have MU5:=Lib.hid (MU4.out.trans hmu5)
    have RE5:=Lib.hid (HR.out l5 hp5 hs5)
    clear hnu5 hmu5 hp5 hs5
    go_wp2_with fail
    go_roundw
    case rel=>exact ⟨a,mid,lim,_,_,l5,rfl,rfl,rfl,rfl,rfl,⟨g1,by omega,by omega,hlim⟩,NU5.out,hln5,RE5.out,MU5.out⟩
    case measure=>simp [intOf] <;> omega
end Go.Proofs.Ytamnmjckhicapaa
namespace Go.Proofs.Ytamnmjckhicapaa
open Go.RowKit Go.WideShapes Go.ChangeShapes Go.Deep
set_option linter.unusedVariables false
set_option linter.unusedSimpArgs false
set_option maxRecDepth 100000
def Tells (w:World) (R:Prop) (e:Ending) (w':World):Prop:=∃ f:Bool,e=.returned (.bool f)∧Ext w w'∧(f=true↔R)
def TR (a m h d:Int):Prop:=0≤a∧a≤255∧6≤m∧m≤40∧1≤h∧h≤10∧4≤d∧d≤30∧m≤2*(d - 1)∧2*(h+1)≤m
def TF (a m h d:Int):Prop:=0≤a∧a≤65535∧0≤m∧m≤65535∧0≤h∧h≤65535∧0≤d∧d≤65535
def HdR (B:Br):Prop:=TR (B.hi 2) (B.hi 3) (B.hi 4) (B.hi 5)∧TF (B.hi 13) (B.hi 14) (B.hi 15) (B.hi 16)∧B.hi 2=0∧1≤B.hi 6∧B.hi 6≤10∧B.np≤32∧-1≤B.hi 12∧B.hi 12 < B.np
def ClkR (B:Br) (k:Nat):Prop:=∀ j,j < 9→0≤B.gi k (6+j)∧B.gi k (6+j)≤1000
def PortR (B:Br) (k:Nat):Prop:=ClkR B k∧TF (B.gi k 78) (B.gi k 79) (B.gi k 80) (B.gi k 81)∧TF (B.gi k 82) (B.gi k 83) (B.gi k 84) (B.gi k 85)∧TF (B.gi k 64) (B.gi k 65) (B.gi k 66) (B.gi k 67)
def RightP (B:Br):Prop:=HdR B∧∀ k,k < B.np→PortR B k
end Go.Proofs.Ytamnmjckhicapaa
namespace Go.Proofs.Ytamnmjckhicapaa
open Go.RowKit Go.BigFrame Go.WideShapes Go.ChangeShapes Go.Deep
set_option linter.unusedVariables false
set_option linter.unusedSimpArgs false
set_option maxRecDepth 100000
theorem twithin_any (n l m:Int) (w:World) :
    Calls Try.prog 95 #[.int .i64 n,.int .i64 l,.int .i64 m] w fun e w'=>e=.returned (.bool (decide (l≤n) && decide (n≤m)))∧w=w':=by
 by_cases h1:l≤n
 ·have e1:decide (l≤n)=true:=by simpa using h1
  go_enter Try.func95,Try.ntmps95
  go_wp2
  go_ret
  exact ⟨retB (by rw [e1]; rfl),rfl⟩
 ·have e1:decide (l≤n)=false:=by simpa using h1
  go_enter Try.func95,Try.ntmps95
  go_wp2
  go_ret
  exact ⟨rfl,rfl⟩
theorem eq_checks (w:World) (b0 b1 b2 b3 b4 b5:Bool):(binOp .eql 185 (.agg #[.bool b0,.bool b1,.bool b2,.bool b3,.bool b4,.bool b5]) (.agg #[.bool true,.bool true,.bool true,.bool true,.bool true,.bool true])).run Try.prog w =
    .ok (.bool (b0 && b1 && b2 && b3 && b4 && b5)) w:=by
 have k1:Try.prog.stoodInHeld 185=false:=by kernel_rfl
 simp [go_sem,k1,Try.underlying185]
 cases b0 <;> simp <;> cases b1 <;> simp <;> cases b2 <;> simp <;> cases b3 <;> simp <;> cases b4 <;> simp <;> cases b5 <;> simp
theorem guard_checks:Try.prog.eqGuardType Try.prog.depth 185=false:=by kernel_rfl
theorem w64 (n:Int) (h0:-9223372036854775808≤n) (h1:n≤9223372036854775807):RowKit.wrap64 n=n:=by unfold RowKit.wrap64; omega
def rightB (a m h d:Int):Bool:=decide (0≤a∧a≤255∧6≤m∧m≤40∧1≤h∧h≤10∧4≤d∧d≤30∧m≤2*(d - 1)∧2*(h+1)≤m)
theorem tmright_any (a m h d:Int) (w:World) :
    Calls Try.prog 80 #[.agg #[.int .i64 a,.int .i64 m,.int .i64 h,.int .i64 d]] w fun e w'=>e=.returned (.bool (rightB a m h d))∧Ext w w':=by
 have he:=eq_checks
 have hg:=guard_checks
 go_enter Try.func80,Try.ntmps80
 go_wp2
 go_quiet ((first
  | (go_at_call 95; exact quietL (twithin_any _ _ _ _))
  | (go_at_call 95; exact quietA (twithin_any _ _ _ _))))
 go_wp2
 go_ret
 refine ⟨retB ?_,((Ext.refl w).alloc _).drewN _⟩
 unfold rightB
 rw [Bool.eq_iff_iff]
 simp only [Bool.and_eq_true,decide_eq_true_eq]
 by_cases hr:(1≤h∧h≤10)∧(4≤d∧d≤30)
 ·rw [w64 (d - 1) (by omega) (by omega),w64 (2*(d - 1)) (by omega) (by omega),w64 (h+1) (by omega) (by omega),w64 (2*(h+1)) (by omega) (by omega)]
  omega
 ·omega
theorem rightB_iff (a m h d:Int):rightB a m h d=true↔TR a m h d:=by unfold rightB TR; simp
theorem cwithin_any (n l m:Int) (w:World) :
    Calls Try.prog 81 #[.int .i64 n,.int .i64 l,.int .i64 m] w fun e w'=>e=.returned (.bool (decide (l≤n) && decide (n≤m)))∧w=w':=by
 by_cases h1:l≤n
 ·have e1:decide (l≤n)=true:=by simpa using h1
  go_enter Try.func81,Try.ntmps81
  go_wp2
  go_ret
  exact ⟨retB (by rw [e1]; rfl),rfl⟩
 ·have e1:decide (l≤n)=false:=by simpa using h1
  go_enter Try.func81,Try.ntmps81
  go_wp2
  go_ret
  exact ⟨rfl,rfl⟩
def pick4 (a m h d:Int):Nat→Int
 | 0=>a | 1=>m | 2=>h | _=>d
theorem told_ix (a m h d:Int) (k:Nat) (hk:k < 4) (w:World):(Instr.index 186 (.agg #[.int .i64 a,.int .i64 m,.int .i64 h,.int .i64 d]) (.int .i64 (k:Int))).run Try.prog w=.ok (.int .i64 (pick4 a m h d k)) w:=by
 rcases (by omega:k=0∨k=1∨k=2∨k=3) with rfl | rfl | rfl | rfl
 all_goals kernel_rfl
theorem told_any (a m h d:Int) (w:World):Calls Try.prog 82 #[.agg #[.int .i64 a,.int .i64 m,.int .i64 h,.int .i64 d]] w (Tells w (TF a m h d)):=by
 go_enter Try.func82,Try.ntmps82
 go_wp2_with fail
 go_loop [14] (fun i=>∃ k:Nat,k≤4∧i=.int .i64 k∧Hid (∀ n,n < k→0≤pick4 a m h d n∧pick4 a m h d n≤65535)) (fun i=>4 - (intOf i).toNat)
 case atStart=>exact ⟨0,by omega,rfl,Lib.hid (fun n hn=>by omega)⟩
 case round =>
  obtain ⟨k,hk,rfl,hn⟩:=hrel
  by_cases hlt:k < 4
  ·have hix:=told_ix a m h d k hlt
   obtain ⟨z,hz⟩:∃ z,pick4 a m h d k=z:=⟨_,rfl⟩
   rw [hz] at hix
   have HZ:=Lib.hid hz
   clear hz
   by_cases hb:0≤z∧z≤65535
   ·go_wp2_with (go_at_call 81; refine (asb (cwithin_any _ _ _ _) (y:=true) (by simp; omega)).mono ?_; rintro e w' ⟨rfl,rfl⟩)
    go_round
    case rel =>
     refine ⟨k+1,by omega,by go_num,Lib.hid (fun n hn'=>?_)⟩
     by_cases e:n=k
     ·subst e; rw [HZ.out]; exact hb
     ·exact hn.out n (by omega)
    case measure=>simp [intOf]; omega
   ·go_wp2_with (go_at_call 81; refine (asb (cwithin_any _ _ _ _) (y:=false) (by simp; omega)).mono ?_; rintro e w' ⟨rfl,rfl⟩)
    go_ret
    refine ⟨false,rfl,(Ext.refl w).alloc _,⟨(fun h=>by cases h),(fun h=>?_)⟩⟩
    exfalso
    apply hb
    rw [← HZ.out]
    unfold TF at h
    match k,hlt with
    | 0,_=>exact ⟨h.1,h.2.1⟩
    | 1,_=>exact ⟨h.2.2.1,h.2.2.2.1⟩
    | 2,_=>exact ⟨h.2.2.2.2.1,h.2.2.2.2.2.1⟩
    | 3,_=>exact ⟨h.2.2.2.2.2.2.1,h.2.2.2.2.2.2.2⟩
  ·obtain rfl:k=4:=by omega
   go_wp2_with fail
   go_ret
   have h0:=hn.out 0 (by omega)
   have h1:=hn.out 1 (by omega)
   have h2:=hn.out 2 (by omega)
   have h3:=hn.out 3 (by omega)
   exact ⟨true,rfl,(Ext.refl w).alloc _,⟨fun _=>⟨h0.1,h0.2,h1.1,h1.2,h2.1,h2.2,h3.1,h3.2⟩,fun _=>rfl⟩⟩
def ptrs9 (g o:Nat):Array Value:=#[.pointer (some ⟨g,o,none⟩),.pointer (some ⟨g,o+1,none⟩),.pointer (some ⟨g,o+2,none⟩),.pointer (some ⟨g,o+3,none⟩),.pointer (some ⟨g,o+4,none⟩),.pointer (some ⟨g,o+5,none⟩),.pointer (some ⟨g,o+6,none⟩),.pointer (some ⟨g,o+7,none⟩),.pointer (some ⟨g,o+8,none⟩)]
theorem size_ptrs:(Try.prog.info? 188).map (·.size)=some 9:=by kernel_rfl
theorem ptrs_ix (g o k:Nat) (hk:k < 9) (w:World):(Instr.index 188 (.agg (ptrs9 g o)) (.int .i64 (k:Int))).run Try.prog w=.ok (.pointer (some ⟨g,o+k,none⟩)) w:=by
 rcases (by omega:k=0∨k=1∨k=2∨k=3∨k=4∨k=5∨k=6∨k=7∨k=8) with rfl | rfl | rfl | rfl | rfl | rfl | rfl | rfl | rfl
 all_goals kernel_rfl
set_option maxRecDepth 100000 in
set_option maxHeartbeats 1000000 in
theorem all_any (g o:Nat) (w:World):Calls Try.prog 96 #[.pointer (some ⟨g,o,none⟩)] w fun e w'=>e=.returned (.agg (ptrs9 g o))∧Ext w w':=by
 have hi:=Lib.hid (show (Try.prog.info? 188).map (·.size)=some (ptrs9 g o).size from size_ptrs)
 go_enter Try.func96,Try.ntmps96
 go_wp2_with fail
 refine wp_region_tail 28 (by kernel_rfl) (by kernel_rfl) ?_
 intro u hu
 have hx:Ext w u:=by
  rw [hu]
  exact ((Ext.refl w).alloc _).drew
 obtain ⟨old,hb2,hsz⟩:∃ old:Array Value,u.heap[w.heap.size]?=some (.cells old 188 (0,0))∧old.size=9:=by
  rw [hu]
  exact ⟨_,heap_alloc_new _ _,rfl⟩
 clear hu
 simp only [List.take_succ_cons,List.take_zero,List.drop_succ_cons,List.drop_zero]
 iterate 28 still_step
 refine wpStill_nil ?_
 have hgoal:∀ u':World,u'.heap[w.heap.size]?=some (.cells (ptrs9 g o) 188 (0,0))→Ext w u'→True:=fun _ _ _=>trivial
 refine wpList_store_row rfl 188 _ _ rfl w.heap.size (ptrs9 g o) rfl rfl 188 old hb2 hi.out hsz (by rw [← Array.all_toList]; rfl) ?_
 have hy:=setRow_heap _ _ _ (ptrs9 g o) _ _ hb2
 have hx2:=ext_setRow hx (Nat.le_refl _) (ptrs9 g o)
 clear hb2 hx hgoal
 go_wp2_with fail
 exact bodyPost_ret (results_cell_row rfl _ _ _ _ (ptrs9 g o) (0,0) _ rfl hy Try.underlying188 rfl hi.out) rfl ⟨rfl,hx2⟩
end Go.Proofs.Ytamnmjckhicapaa
