/- Part 7 of what PlanVersions stands on. No statement is proved here. -/
import Derived.Sort.LotD4
import Derived.Sort.LotD5
import Derived.Laws.Bits64
import Derived.Laws.Bits64b
import Derived.Test.YtamnmjckhicapaaPtFf
namespace Go.Proofs.Ytamnmjckhicapaa
open Go.RowKit Go.BigFrame Go.WideShapes Go.ChangeShapes Go.Deep
set_option linter.unusedVariables false
set_option linter.unusedSimpArgs false
set_option maxRecDepth 100000
set_option maxRecDepth 100000
theorem ss_go (b i:Nat) (d:Array Int) (h:(decide (i < b) && !ltI d[i]! d[i - 1]!)=true):Go.Sort.scanSorted ltI d b i=Go.Sort.scanSorted ltI d b (i+1):=by
 rw [Go.Sort.scanSorted,if_pos h]
theorem ss_stop (b i:Nat) (d:Array Int) (h:(decide (i < b) && !ltI d[i]! d[i - 1]!)=false):Go.Sort.scanSorted ltI d b i=i:=by
 rw [Go.Sort.scanSorted,if_neg (by rw [h]; decide)]
theorem shd_stop (j:Nat) (d:Array Int) (h:ltI d[j+1]! d[j]! = false):Go.Sort.shiftDown ltI (j+1) d=d:=by
 rw [Go.Sort.shiftDown,if_pos (by rw [h]; rfl)]
theorem shd_go (j:Nat) (d:Array Int) (h:ltI d[j+1]! d[j]! = true):Go.Sort.shiftDown ltI (j+1) d=Go.Sort.shiftDown ltI j (Go.Sort.swp d (j+1) j):=by
 rw [Go.Sort.shiftDown,if_neg (by rw [h]; decide)]
theorem shu_end (b j:Nat) (d:Array Int) (h:¬ j < b):Go.Sort.shiftUp ltI b j d=d:=by
 rw [Go.Sort.shiftUp,if_neg h]
theorem shu_stop (b j:Nat) (d:Array Int) (h:ltI d[j]! d[j - 1]! = false):Go.Sort.shiftUp ltI b j d=d:=by
 rw [Go.Sort.shiftUp]
 split
 ·rw [if_pos (by rw [h]; rfl)]
 ·rfl
theorem shu_go (b j:Nat) (d:Array Int) (hj:j < b) (h:ltI d[j]! d[j - 1]! = true):Go.Sort.shiftUp ltI b j d=Go.Sort.shiftUp ltI b (j+1) (Go.Sort.swp d j (j - 1)):=by
 rw [Go.Sort.shiftUp,if_pos hj,if_neg (by rw [h]; decide)]
theorem pi_true (a b s i:Nat) (d:Array Int) (h:Go.Sort.scanSorted ltI d b i=b):Go.Sort.partialIns ltI a b (s+1) i d=(d,true):=by
 rw [Go.Sort.partialIns]
 dsimp only
 rw [h,if_pos rfl]
theorem pi_false (a b s i I:Nat) (d:Array Int) (h:Go.Sort.scanSorted ltI d b i=I) (hI:I ≠ b) (h50:b - a < 50):Go.Sort.partialIns ltI a b (s+1) i d=(d,false):=by
 rw [Go.Sort.partialIns]
 dsimp only
 rw [h,if_neg hI,if_pos h50]
theorem pi_go (a b s i I:Nat) (d D1 D2:Array Int) (h:Go.Sort.scanSorted ltI d b i=I) (hI:I ≠ b) (h50:¬ b - a < 50) (h1:(if I - a ≥ 2 then Go.Sort.shiftDown ltI (I - 1) (Go.Sort.swp d I (I - 1)) else Go.Sort.swp d I (I - 1))=D1) (h2:(if b - I ≥ 2 then Go.Sort.shiftUp ltI b (I+1) D1 else D1)=D2) :
    Go.Sort.partialIns ltI a b (s+1) i d=Go.Sort.partialIns ltI a b s I D2:=by
 rw [Go.Sort.partialIns]
 dsimp only
 rw [h,if_neg hI,if_neg h50,h1,h2]
def PinsP (w:World) (g n:Nat) (r:Array Int × Bool) (e:Ending) (w':World):Prop:=∃ (ok:Bool) (d':Array Int),e=.returned (.bool ok)∧r=(d',ok)∧SoP w g n d' w'
set_option maxRecDepth 100000 in
set_option maxHeartbeats 2000000 in
theorem pins_any (w:World) (g n cap:Nat) (l0:List Int) (a b:Nat) (hab:a < b) (hb:b≤n) (hn:n≤500) (h:Nums w g l0) (hl0:l0.length=n) :
    Calls Try.prog 89 #[(.slice (some ⟨g,0,none⟩) n cap),.int .i64 a,.int .i64 b] w (PinsP w g n (Go.Sort.partialInsertionSort ltI l0.toArray a b)):=by
 obtain ⟨R,hR⟩:∃ R,Go.Sort.partialInsertionSort ltI l0.toArray a b=R:=⟨_,rfl⟩
 rw [hR]
 obtain ⟨i0,hi0⟩:∃ i0,a+1=i0:=⟨_,rfl⟩
 have H0:=Lib.hid (show ∃ l:List Int,Nums w g l∧l.length=n∧Go.Sort.partialIns ltI a b 5 i0 l.toArray=R∧Mut (fun k=>k=g) w w from ⟨l0,h,hl0,by rw [← hR,← hi0]; rfl,Mut.refl _ w⟩)
 have HI0:=Lib.hid hi0
 have hw1:IntKind.i64.wrap ((a:Int)+1)=(i0:Int):=by rw [IntKind.wrap_i64]; omega
 clear h hl0 hR hi0
 clear l0
 go_enter Try.func89,Try.ntmps89
 go_wp2_with fail
 go_loopw [7,8] (fun u v wr=>∃ (i t s:Nat) (l:List Int),u=.int .i64 i∧v=.int .i64 t∧t+s=5∧(a+1≤i∧i≤b)∧Nums wr g l∧l.length=n∧Go.Sort.partialIns ltI a b s i l.toArray=R∧Mut (fun k=>k=g) w wr) (fun _ v _=>6 - (intOf v).toNat)
 case atStart =>
  obtain ⟨l,q1,q2,q3,q4⟩:=H0.out
  exact ⟨i0,0,5,l,rfl,rfl,rfl,by have:=HI0.out; omega,q1,q2,q3,q4⟩
 case round =>
  clear H0 HI0 hw1
  obtain ⟨i',t,s,l,rfl,rfl,hts,hlb,hnu,hln,hso,hmu⟩:=hrel
  rename World=>wl
  have NU:=Lib.hid hnu
  have MU:=Lib.hid hmu
  have SO:=Lib.hid hso
  have LB:=Lib.hid hlb
  clear hnu hmu hso hlb
  cases s with
  | zero =>
   have dt:decide ((t:Int) < (5:Int))=false:=by simp; omega
   clear hts
   have HD:=Lib.hid (show (l.toArray,false)=R from SO.out)
   go_wp2_with fail
   go_ret
   exact ⟨false,l.toArray,rfl,HD.out.symm,l,NU.out,hln,rfl,MU.out⟩
  | succ s =>
   have dt:decide ((t:Int) < (5:Int))=true:=by simp; omega
   have TS:=Lib.hid (show t+(s+1)=5 from hts)
   clear hts
   obtain ⟨I,hI⟩:∃ I,Go.Sort.scanSorted ltI l.toArray b i'=I:=⟨_,rfl⟩
   have HS:=Lib.hid hI
   have HS0:=Lib.hid hI
   clear hI
   go_wp2_with fail
   go_loopw [7] (fun u wr=>∃ i:Nat,u=.int .i64 i∧(a+1≤i∧i≤b)∧Nums wr g l∧Go.Sort.scanSorted ltI l.toArray b i=I∧Mut (fun k=>k=g) w wr) (fun u _=>b+1 - (intOf u).toNat)
   case atStart=>exact ⟨i',rfl,LB.out,NU.out,HS.out,MU.out⟩
   case round =>
    clear HS LB NU MU dt
    obtain ⟨i,rfl,hlb,hnu,hsc,hmu⟩:=hrel
    rename World=>wl
    have LB:=Lib.hid hlb
    have NU:=Lib.hid hnu
    have MU:=Lib.hid hmu
    have SC:=Lib.hid hsc
    clear hlb hnu hmu hsc
    obtain ⟨c,hc⟩:∃ c,(decide (i < b) && !ltI l.toArray[i]! l.toArray[i - 1]!)=c:=⟨_,rfl⟩
    have HC:=Lib.hid hc
    clear hc
    go_upto_region 5 with fail
    go_cut [32] from 17 to 34 (fun s wx=>s=.bool c∧Nums wx g l∧Mut (fun k=>k=g) w wx)
    case first =>
     by_cases hij:i < b
     ·have dij:decide ((i:Int) < (b:Int))=true:=by simp; omega
      obtain ⟨ip,hip⟩:∃ ip,i - 1=ip:=⟨_,rfl⟩
      have hip9:ip+1=i:=by have:=LB.out; omega
      have HIP:=Lib.hid hip
      have hin:i < n:=by omega
      have hipn:ip < n:=by omega
      obtain ⟨x,hvp⟩:∃ x,at0 l i=x:=⟨_,rfl⟩
      obtain ⟨y,hvq⟩:∃ y,at0 l ip=y:=⟨_,rfl⟩
      have hdn:IntKind.i64.wrap ((i:Int) - 1)=(ip:Int):=by rw [IntKind.wrap_i64]; omega
      clear hip
      refine beginL (S:=fun W'=>Ext wl W') (by kernel_rfl) ?_
      intro wd hqx
      have hq0:Ext wl wd:=hqx
      refine tLp 0 ((.int .i64 (i:Int))) rfl hq0 ?_
      simp only [ps]
      refine tLp 1 ((.int .i64 (b:Int))) rfl hq0 ?_
      simp only [ps]
      refine tL 2 ((.bool true)) rfl (Or.inl ⟨rfl,fun W' _=>by go_simp⟩) hq0 ?_
      simp only [ps]
      refine tLp 3 ((.bool true)) rfl hq0 ?_
      simp only [ps]
      refine tLp 4 ((.slice (some ⟨g,0,none⟩) n cap)) rfl hq0 ?_
      simp only [ps]
      refine tLp 5 ((.int .i64 (i:Int))) rfl hq0 ?_
      simp only [ps]
      refine tL 6 ((.pointer (some ⟨g,i,none⟩))) rfl (Or.inl ⟨rfl,fun W' _=>by go_simp <;> (intro h; omega)⟩) hq0 ?_
      simp only [ps]
      refine tL 7 (_) rfl (yieldsIf_cell rfl 3 _ rfl ⟨g,i,none⟩ rfl (.int .i64 x) _ (fun W' hW'=>(show W'.cell? ⟨g,i,none⟩=_ from (NU.out.ext hW').cell (by omega)).trans (by rw [hvp])) Try.underlying3 rfl) hq0 ?_
      simp only [ps]
      refine tLp 8 ((.slice (some ⟨g,0,none⟩) n cap)) rfl hq0 ?_
      simp only [ps]
      refine tLp 9 ((.int .i64 (i:Int))) rfl hq0 ?_
      simp only [ps]
      refine tL 10 ((.int .i64 (ip:Int))) rfl (Or.inl ⟨rfl,fun W' _=>by go_simp <;> (rw [IntKind.wrap_i64]; omega)⟩) hq0 ?_
      simp only [ps]
      refine tL 11 ((.pointer (some ⟨g,ip,none⟩))) rfl (Or.inl ⟨rfl,fun W' _=>by go_simp <;> (intro h; omega)⟩) hq0 ?_
      simp only [ps]
      refine tL 12 (_) rfl (yieldsIf_cell rfl 3 _ rfl ⟨g,ip,none⟩ rfl (.int .i64 y) _ (fun W' hW'=>(show W'.cell? ⟨g,ip,none⟩=_ from (NU.out.ext hW').cell (by omega)).trans (by rw [hvq])) Try.underlying3 rfl) hq0 ?_
      simp only [ps]
      refine runG (i:=13) rfl (by rfl) (by kernel_rfl) (fun K hK=>?_)
      go_simp
      refine (less_ext x y _).mono ?_
      rintro e wc1 ⟨rfl,hx⟩
      have hq1:=hq0.trans hx
      refine hK.out _ _ hq1 (fun hHeld=>?_)
      try simp only [ps]
      clear hK K hHeld
      refine tL 14 ((.bool (!(decide (x < y))))) rfl (Or.inl ⟨rfl,fun W' _=>by go_simp⟩) hq1 ?_
      simp only [ps]
      refine tLp 15 ((.bool (!(decide (x < y))))) rfl hq1 ?_
      simp only [ps]
      refine wpAnyH_done (by kernel_rfl) ?_ _
      have NU2:=Lib.hid (NU.out.ext hq1)
      have MU2:=Lib.hid (MU.out.trans (hq1.mut (fun k=>k=g)))
      clear hq0 hqx hq1
      generalize hwn0:wc1=w5 at *
      go_wp2_with fail
      go_meet
      exact ⟨congrArg Value.bool (by rw [← HC.out,decide_eq_true hij,HIP.out,arr_at l (by omega),arr_at l (by omega),hvp,hvq]; rfl),NU2.out,MU2.out⟩
     ·have dij:decide ((i:Int) < (b:Int))=false:=by simp; omega
      refine beginL (S:=fun W'=>Ext wl W') (by kernel_rfl) ?_
      intro wd hqx
      have hq0:Ext wl wd:=hqx
      refine tLp 0 ((.int .i64 (i:Int))) rfl hq0 ?_
      simp only [ps]
      refine tLp 1 ((.int .i64 (b:Int))) rfl hq0 ?_
      simp only [ps]
      refine tL 2 ((.bool false)) rfl (Or.inl ⟨rfl,fun W' _=>by go_simp⟩) hq0 ?_
      simp only [ps]
      refine tLp 3 ((.bool false)) rfl hq0 ?_
      simp only [ps]
      refine tL 4 (undef) rfl (Or.inr ⟨rfl,rfl⟩) hq0 ?_
      simp only [ps]
      refine tL 5 (undef) rfl (Or.inr ⟨rfl,rfl⟩) hq0 ?_
      simp only [ps]
      refine tL 6 (undef) rfl (Or.inr ⟨rfl,rfl⟩) hq0 ?_
      simp only [ps]
      refine tL 7 (undef) rfl (Or.inr ⟨rfl,rfl⟩) hq0 ?_
      simp only [ps]
      refine tL 8 (undef) rfl (Or.inr ⟨rfl,rfl⟩) hq0 ?_
      simp only [ps]
      refine tL 9 (undef) rfl (Or.inr ⟨rfl,rfl⟩) hq0 ?_
      simp only [ps]
      refine tL 10 (undef) rfl (Or.inr ⟨rfl,rfl⟩) hq0 ?_
      simp only [ps]
      refine tL 11 (undef) rfl (Or.inr ⟨rfl,rfl⟩) hq0 ?_
      simp only [ps]
      refine tL 12 (undef) rfl (Or.inr ⟨rfl,rfl⟩) hq0 ?_
      simp only [ps]
      refine tL 13 (undef) rfl (Or.inr ⟨rfl,rfl⟩) hq0 ?_
      simp only [ps]
      refine tL 14 (undef) rfl (Or.inr ⟨rfl,rfl⟩) hq0 ?_
      simp only [ps]
      refine tLp 15 ((.bool false)) rfl hq0 ?_
      simp only [ps]
      refine wpAnyH_done (by kernel_rfl) ?_ _
      have NU2:=Lib.hid (NU.out.ext hq0)
      have MU2:=Lib.hid (MU.out.trans (hq0.mut (fun k=>k=g)))
      clear hq0 hqx
      generalize hwn0:wd=w5 at *
      go_wp2_with fail
      go_meet
      exact ⟨congrArg Value.bool (by rw [← HC.out,decide_eq_false hij]; rfl),NU2.out,MU2.out⟩
    case rest =>
     obtain ⟨rfl,hnu,hmu⟩:=hcut
     have NU2:=Lib.hid hnu
     have MU2:=Lib.hid hmu
     clear hnu hmu NU MU
     rename World=>wx
     cases c with
     | true =>
      have hij:i < b:=by
       have:=HC.out
       rw [Bool.and_eq_true,decide_eq_true_eq] at this
       exact this.1
      have SC2:=Lib.hid (show Go.Sort.scanSorted ltI l.toArray b (i+1)=I from by rw [← SC.out]; exact (ss_go _ _ _ HC.out).symm)
      have LB2:=Lib.hid (show a+1≤i+1∧i+1≤b from by have:=LB.out; omega)
      have hup:IntKind.i64.wrap ((i:Int)+1)=((i+1:Nat):Int):=by have:=LB.out; rw [IntKind.wrap_i64]; omega
      go_wp2_with fail
      go_roundw
      case rel=>exact ⟨i+1,by go_num,LB2.out,NU2.out,SC2.out,MU2.out⟩
      case measure=>simp [intOf] <;> omega
     | false =>
      have HSC:=Lib.hid (show Go.Sort.scanSorted ltI l.toArray b i'=i from by rw [HS0.out,← SC.out]; exact ss_stop _ _ _ HC.out)
      have NU:=NU2
      have MU:=MU2
      clear SC HC NU2 MU2 HS0
      by_cases hib:i=b
      ·have HD:=Lib.hid (pi_true a b s i' l.toArray (HSC.out.trans hib))
       have dib:((i:Int) == (b:Int))=true:=by simp; omega
       have dib2:decide ((i:Int)=(b:Int))=true:=by simp; omega
       have hib2:=Lib.hid hib
       clear hib
       go_wp2_with fail
       go_ret
       exact ⟨true,l.toArray,rfl,by rw [← HD.out]; exact SO.out.symm,l,NU.out,hln,rfl,MU.out⟩
      ·have dib:((i:Int) == (b:Int))=false:=by simp; omega
       have dib2:decide ((i:Int)=(b:Int))=false:=by simp; omega
       have hlb:i < b:=by have:=LB.out; omega
       by_cases h50:b - a < 50
       ·have HD:=Lib.hid (pi_false a b s i' i l.toArray HSC.out hib h50)
        have hw5:IntKind.i64.wrap ((b:Int) - (a:Int))=(b:Int) - (a:Int):=by rw [IntKind.wrap_i64]; omega
        have d50:decide ((b:Int) - (a:Int) < 50)=true:=by simp; omega
        clear h50
        go_wp2_with fail
        go_ret
        exact ⟨false,l.toArray,rfl,by rw [← HD.out]; exact SO.out.symm,l,NU.out,hln,rfl,MU.out⟩
       ·have hw5:IntKind.i64.wrap ((b:Int) - (a:Int))=(b:Int) - (a:Int):=by rw [IntKind.wrap_i64]; omega
        have d50:decide ((b:Int) - (a:Int) < 50)=false:=by simp; omega
        obtain ⟨D1,hD1⟩:∃ D1,(if i - a ≥ 2 then Go.Sort.shiftDown ltI (i - 1) (Go.Sort.swp l.toArray i (i - 1)) else Go.Sort.swp l.toArray i (i - 1))=D1:=⟨_,rfl⟩
        obtain ⟨D2,hD2⟩:∃ D2,(if b - i ≥ 2 then Go.Sort.shiftUp ltI b (i+1) D1 else D1)=D2:=⟨_,rfl⟩
        have SO9:=Lib.hid (show Go.Sort.partialIns ltI a b s i D2=R from by rw [← SO.out,pi_go a b s i' i l.toArray D1 D2 HSC.out hib h50 hD1 hD2])
        obtain ⟨ip,hip⟩:∃ ip,i - 1=ip:=⟨_,rfl⟩
        obtain ⟨i1,hi1⟩:∃ i1,i+1=i1:=⟨_,rfl⟩
        have hi0:a+1≤i:=by have:=LB.out; omega
        have hii:ip+1=i:=by omega
        rw [hip] at hD1
        rw [hi1] at hD2
        have HD2:=Lib.hid hD2
        obtain ⟨x,hvp⟩:∃ x,at0 l i=x:=⟨_,rfl⟩
        obtain ⟨y,hvq⟩:∃ y,at0 l ip=y:=⟨_,rfl⟩
        have hwd:IntKind.i64.wrap ((i:Int) - 1)=(ip:Int):=by rw [IntKind.wrap_i64]; omega
        have hwu:IntKind.i64.wrap ((i:Int)+1)=(i1:Int):=by rw [IntKind.wrap_i64]; omega
        have HII:=Lib.hid (And.intro hii hi1)
        rw [← swl_arr l (by omega) (by omega)] at hD1
        have HD1:=Lib.hid hD1
        have hin:i < n:=by omega
        have hipn:ip < n:=by omega
        clear hip hi1 hii hD1 hD2 h50 hib SO HSC
        go_wp2_with fail
        refine beginZ (S:=fun W'=>Ext wx W') 15 (by kernel_rfl) ?_
        intro wd hqx
        have hq0:Ext wx wd:=hqx
        refine takeY (i:=0) (z:=15) (v:=(.slice (some ⟨g,0,none⟩) n cap)) rfl (by kernel_rfl) (by kernel_rfl) (by kernel_rfl) (by kernel_rfl) (fun _ _ _ h=>h) (Or.inl ⟨rfl,fun _ _=>rfl⟩) hq0 ?_
        simp only [ps]
        refine takeY (i:=1) (z:=15) (v:=(.int .i64 (i:Int))) rfl (by kernel_rfl) (by kernel_rfl) (by kernel_rfl) (by kernel_rfl) (fun _ _ _ h=>h) (Or.inl ⟨rfl,fun _ _=>rfl⟩) hq0 ?_
        simp only [ps]
        refine takeY (i:=2) (z:=15) (v:=(.slice (some ⟨g,0,none⟩) n cap)) rfl (by kernel_rfl) (by kernel_rfl) (by kernel_rfl) (by kernel_rfl) (fun _ _ _ h=>h) (Or.inl ⟨rfl,fun _ _=>rfl⟩) hq0 ?_
        simp only [ps]
        refine takeY (i:=3) (z:=15) (v:=(.int .i64 (i:Int))) rfl (by kernel_rfl) (by kernel_rfl) (by kernel_rfl) (by kernel_rfl) (fun _ _ _ h=>h) (Or.inl ⟨rfl,fun _ _=>rfl⟩) hq0 ?_
        simp only [ps]
        refine takeY (i:=4) (z:=15) (v:=(.int .i64 (ip:Int))) rfl (by kernel_rfl) (by kernel_rfl) (by kernel_rfl) (by kernel_rfl) (fun _ _ _ h=>h) (Or.inl ⟨rfl,fun W' _=>by go_simp <;> (rw [IntKind.wrap_i64]; omega)⟩) hq0 ?_
        simp only [ps]
        refine takeY (i:=5) (z:=15) (v:=(.slice (some ⟨g,0,none⟩) n cap)) rfl (by kernel_rfl) (by kernel_rfl) (by kernel_rfl) (by kernel_rfl) (fun _ _ _ h=>h) (Or.inl ⟨rfl,fun _ _=>rfl⟩) hq0 ?_
        simp only [ps]
        refine takeY (i:=6) (z:=15) (v:=(.int .i64 (i:Int))) rfl (by kernel_rfl) (by kernel_rfl) (by kernel_rfl) (by kernel_rfl) (fun _ _ _ h=>h) (Or.inl ⟨rfl,fun _ _=>rfl⟩) hq0 ?_
        simp only [ps]
        refine takeY (i:=7) (z:=15) (v:=(.int .i64 (ip:Int))) rfl (by kernel_rfl) (by kernel_rfl) (by kernel_rfl) (by kernel_rfl) (fun _ _ _ h=>h) (Or.inl ⟨rfl,fun W' _=>by go_simp <;> (rw [IntKind.wrap_i64]; omega)⟩) hq0 ?_
        simp only [ps]
        refine takeY (i:=8) (z:=15) (v:=(.pointer (some ⟨g,ip,none⟩))) rfl (by kernel_rfl) (by kernel_rfl) (by kernel_rfl) (by kernel_rfl) (fun _ _ _ h=>h) (Or.inl ⟨rfl,fun W' _=>by go_simp <;> (intro h; omega)⟩) hq0 ?_
        simp only [ps]
        refine takeZ (i:=9) (z:=15) (v:=_) rfl rfl (by kernel_rfl) (by kernel_rfl) (by kernel_rfl) (by kernel_rfl) (by kernel_rfl) (by kernel_rfl) (fun _ _ _ h=>h) (yieldsIf_cell rfl 3 _ rfl ⟨g,ip,none⟩ rfl (.int .i64 y) _ (fun W' hW'=>(show W'.cell? ⟨g,ip,none⟩=_ from (NU.out.ext hW').cell (by omega)).trans (by rw [hvq])) Try.underlying3 rfl) hq0 ?_
        simp only [ps]
        refine takeY (i:=10) (z:=15) (v:=(.slice (some ⟨g,0,none⟩) n cap)) rfl (by kernel_rfl) (by kernel_rfl) (by kernel_rfl) (by kernel_rfl) (fun _ _ _ h=>h) (Or.inl ⟨rfl,fun _ _=>rfl⟩) hq0 ?_
        simp only [ps]
        refine takeY (i:=11) (z:=15) (v:=(.int .i64 (i:Int))) rfl (by kernel_rfl) (by kernel_rfl) (by kernel_rfl) (by kernel_rfl) (fun _ _ _ h=>h) (Or.inl ⟨rfl,fun _ _=>rfl⟩) hq0 ?_
        simp only [ps]
        refine takeY (i:=12) (z:=15) (v:=(.pointer (some ⟨g,i,none⟩))) rfl (by kernel_rfl) (by kernel_rfl) (by kernel_rfl) (by kernel_rfl) (fun _ _ _ h=>h) (Or.inl ⟨rfl,fun W' _=>by go_simp <;> (intro h; omega)⟩) hq0 ?_
        simp only [ps]
        refine takeZ (i:=13) (z:=15) (v:=_) rfl rfl (by kernel_rfl) (by kernel_rfl) (by kernel_rfl) (by kernel_rfl) (by kernel_rfl) (by kernel_rfl) (fun _ _ _ h=>h) (yieldsIf_cell rfl 3 _ rfl ⟨g,i,none⟩ rfl (.int .i64 x) _ (fun W' hW'=>(show W'.cell? ⟨g,i,none⟩=_ from (NU.out.ext hW').cell (by omega)).trans (by rw [hvp])) Try.underlying3 rfl) hq0 ?_
        simp only [ps]
        refine takeY (i:=14) (z:=15) (v:=(.pointer (some ⟨g,i,none⟩))) rfl (by kernel_rfl) (by kernel_rfl) (by kernel_rfl) (by kernel_rfl) (fun _ _ _ h=>h) (Or.inl ⟨rfl,fun W' _=>by go_simp <;> (intro h; omega)⟩) hq0 ?_
        simp only [ps]
        refine runZl (z:=15) rfl rfl (by kernel_rfl) (fun K hK=>?_)
        have hce:=(NU.out.ext hq0)
        have hc1:wd.cell? ⟨g,i,none⟩=some (.int .i64 (at0 l (i))):=hce.cell (by omega)
        have hf1:=hce.froz (i)
        go_simp
        refine hK.out _ _ ?_
        try simp only [ps]
        clear hK K hc1 hf1
        have hce2:=hce.set (p:=i) (by omega) (at0 l (ip))
        rw [hvq] at hce2
        have hq9:=(hq0.mut (fun k=>k=g)).setCell (p:=⟨g,i,none⟩) (.inl rfl) (.int .i64 y)
        refine tL 16 ((.pointer (some ⟨g,ip,none⟩))) rfl (Or.inl ⟨rfl,fun W' _=>by go_simp <;> (intro h; omega)⟩) trivial ?_
        simp only [ps]
        refine runL (i:=17) rfl rfl (by kernel_rfl) (fun K hK=>?_)
        have hc2:(wd.setCell ⟨g,i,none⟩ (.int .i64 y)).cell? ⟨g,ip,none⟩=some (.int .i64 (at0 (l.set (i) y) (ip))):=hce2.cell (by simp; omega)
        have hf2:=hce2.froz (ip)
        go_simp
        refine hK.out _ _ trivial (fun _=>?_)
        try simp only [ps]
        clear hK K hc2 hf2
        refine wpAnyH_done (by kernel_rfl) ?_ _
        have hce3:=hce2.set (p:=ip) (by simp; omega) (at0 l (i))
        rw [hvp] at hce3
        have NU3:=Lib.hid (show Nums _ g (swl l (i) (ip)) from by unfold swl; rw [hvp,hvq]; exact hce3)
        have MU3:=Lib.hid (hq9.setCell (p:=⟨g,ip,none⟩) (.inl rfl) (.int .i64 x))
        clear hce hce2 hce3 hq9 hq0 hqx
        generalize (wd.setCell ⟨g,i,none⟩ (.int .i64 y)).setCell ⟨g,ip,none⟩ (.int .i64 x)=wm at *
        clear hvp hvq
        have MU4:=Lib.hid (MU.out.trans MU3.out)
        have H1:=Lib.hid (show ∃ l2:List Int,Nums wm g l2∧l2.length=n∧l2.toArray=(swl l i ip).toArray∧Mut (fun k=>k=g) w wm from ⟨_,NU3.out,by rw [swl_len]; exact hln,rfl,MU4.out⟩)
        have hw6:IntKind.i64.wrap ((i:Int) - (a:Int))=(i:Int) - (a:Int):=by rw [IntKind.wrap_i64]; omega
        go_upto_if 61 with fail
        go_cut [9] from 13 to 132 (fun s wx=>∃ l:List Int,Nums wx g l∧l.length=n∧l.toArray=D1∧Mut (fun k=>k=g) w wx)
        case first =>
         by_cases h2:2≤i - a
         ·have d2:decide ((2:Int)≤(i:Int) - (a:Int))=true:=by simp; omega
          have d2b:decide ((i:Int) - (a:Int) ≥ (2:Int))=true:=by simp; omega
          have H2:=Lib.hid (show ∃ l2:List Int,Nums wm g l2∧l2.length=n∧Go.Sort.shiftDown ltI ip l2.toArray=D1∧Mut (fun k=>k=g) w wm from by
           have h:=HD1.out
           rw [if_pos h2] at h
           exact ⟨_,NU3.out,by rw [swl_len]; exact hln,h,MU4.out⟩)
          have hip2:ip < i:=by have:=HII.out.1; omega
          clear H1
          go_wp2_with fail
          rw [d2]
          clear d2 d2b hw6 hw5 h2
          go_loopw [9] (fun s wr=>∃ (j:Nat) (l:List Int),s=.int .i64 j∧j < i∧Nums wr g l∧l.length=n∧Go.Sort.shiftDown ltI j l.toArray=D1∧Mut (fun k=>k=g) w wr) (fun s _=>(intOf s).toNat)
          case atStart =>
           obtain ⟨l,q1,q2,q3,q4⟩:=H2.out
           exact ⟨ip,l,rfl,by omega,q1,q2,q3,q4⟩
          case round =>
           clear H2
           obtain ⟨j,l,rfl,hjb,hnu,hln,hso,hmu⟩:=hrel
           rename World=>wl
           have NU:=Lib.hid hnu
           have MU:=Lib.hid hmu
           have SO:=Lib.hid hso
           have JB:=Lib.hid hjb
           clear hnu hmu hso hjb
           have hji:j < i:=JB.out
           cases j with
           | zero =>
            have dj:decide ((1:Int)≤(0:Int))=false:=by decide
            have HD:=Lib.hid (show l.toArray=D1 from SO.out)
            go_wp2_with fail
            go_meet
            case rel=>exact ⟨l,NU.out,hln,HD.out,MU.out⟩
           | succ q =>
            obtain ⟨j,hj⟩:∃ j,q+1=j:=⟨_,rfl⟩
            rw [hj] at SO ⊢
            have HJ:=Lib.hid hj
            have hjn:j < n:=by omega
            have hqn:q < n:=by omega
            have hj1:1≤j:=by omega
            have dj:decide ((1:Int)≤(j:Int))=true:=by simp; omega
            have dj2:decide ((j:Int) ≥ (1:Int))=true:=by simp; omega
            have hdn:IntKind.i64.wrap ((j:Int) - 1)=(q:Int):=by rw [IntKind.wrap_i64]; omega
            obtain ⟨x,hvp⟩:∃ x,at0 l j=x:=⟨_,rfl⟩
            obtain ⟨y,hvq⟩:∃ y,at0 l q=y:=⟨_,rfl⟩
            clear hj JB
            go_wp2_with fail
            refine beginL (S:=fun W'=>Ext wl W') (by kernel_rfl) ?_
            intro wd hqx
            have hq0:Ext wl wd:=hqx
            refine tLp 0 ((.slice (some ⟨g,0,none⟩) n cap)) rfl hq0 ?_
            simp only [ps]
            refine tLp 1 ((.int .i64 (j:Int))) rfl hq0 ?_
            simp only [ps]
            refine tL 2 ((.pointer (some ⟨g,j,none⟩))) rfl (Or.inl ⟨rfl,fun W' _=>by go_simp <;> (intro h; omega)⟩) hq0 ?_
            simp only [ps]
            refine tL 3 (_) rfl (yieldsIf_cell rfl 3 _ rfl ⟨g,j,none⟩ rfl (.int .i64 x) _ (fun W' hW'=>(show W'.cell? ⟨g,j,none⟩=_ from (NU.out.ext hW').cell (by omega)).trans (by rw [hvp])) Try.underlying3 rfl) hq0 ?_
            simp only [ps]
            refine tLp 4 ((.slice (some ⟨g,0,none⟩) n cap)) rfl hq0 ?_
            simp only [ps]
            refine tLp 5 ((.int .i64 (j:Int))) rfl hq0 ?_
            simp only [ps]
            refine tL 6 ((.int .i64 (q:Int))) rfl (Or.inl ⟨rfl,fun W' _=>by go_simp <;> (rw [IntKind.wrap_i64]; omega)⟩) hq0 ?_
            simp only [ps]
            refine tL 7 ((.pointer (some ⟨g,q,none⟩))) rfl (Or.inl ⟨rfl,fun W' _=>by go_simp <;> (intro h; omega)⟩) hq0 ?_
            simp only [ps]
            refine tL 8 (_) rfl (yieldsIf_cell rfl 3 _ rfl ⟨g,q,none⟩ rfl (.int .i64 y) _ (fun W' hW'=>(show W'.cell? ⟨g,q,none⟩=_ from (NU.out.ext hW').cell (by omega)).trans (by rw [hvq])) Try.underlying3 rfl) hq0 ?_
            simp only [ps]
            refine runL (i:=9) rfl rfl (by kernel_rfl) (fun K hK=>?_)
            go_simp
            refine (less_ext x y _).mono ?_
            rintro e wc1 ⟨rfl,hx⟩
            have hq1:=hq0.trans hx
            refine hK.out _ _ hq1 (fun hHeld=>?_)
            try simp only [ps]
            clear hK K hHeld
            refine tL 10 ((.bool (!(decide (x < y))))) rfl (Or.inl ⟨rfl,fun W' _=>by go_simp⟩) hq1 ?_
            simp only [ps]
            refine wpAnyH_done (by kernel_rfl) ?_ _
            have NU2:=Lib.hid (NU.out.ext hq1)
            have MU2:=Lib.hid (MU.out.trans (hq1.mut (fun k=>k=g)))
            clear hq0 hqx hq1
            generalize hwn0:wc1=w5 at *
            have HL:=Lib.hid (show ltI l.toArray[j]! l.toArray[q]! = decide (x < y) from by
             rw [arr_at l (by omega),arr_at l (by omega),hvp,hvq]
             rfl)
            obtain ⟨dx,hdx⟩:∃ dx,decide (x < y)=dx:=⟨_,rfl⟩
            rw [hdx] at HL ⊢
            clear hdx
            cases dx with
            | false =>
             have HD:=Lib.hid (show l.toArray=D1 from by
              have h3:=HL.out
              rw [← SO.out,← HJ.out,shd_stop]
              rw [HJ.out]
              exact h3)
             go_wp2_with fail
             go_meet
             case rel=>exact ⟨l,NU2.out,hln,HD.out,MU2.out⟩
            | true =>
             have SO2:=Lib.hid (show Go.Sort.shiftDown ltI q (swl l j q).toArray=D1 from by
              have h3:=HL.out
              have h0:=SO.out
              rw [← HJ.out] at h3
              rw [← HJ.out,shd_go q _ h3,HJ.out] at h0
              rw [swl_arr l (by omega) (by omega)]
              exact h0)
             clear SO
             go_wp2_with fail
             refine beginZ (S:=fun W'=>Ext w5 W') 15 (by kernel_rfl) ?_
             intro wd hqx
             have hq0:Ext w5 wd:=hqx
             refine takeY (i:=0) (z:=15) (v:=(.slice (some ⟨g,0,none⟩) n cap)) rfl (by kernel_rfl) (by kernel_rfl) (by kernel_rfl) (by kernel_rfl) (fun _ _ _ h=>h) (Or.inl ⟨rfl,fun _ _=>rfl⟩) hq0 ?_
             simp only [ps]
             refine takeY (i:=1) (z:=15) (v:=(.int .i64 (j:Int))) rfl (by kernel_rfl) (by kernel_rfl) (by kernel_rfl) (by kernel_rfl) (fun _ _ _ h=>h) (Or.inl ⟨rfl,fun _ _=>rfl⟩) hq0 ?_
             simp only [ps]
             refine takeY (i:=2) (z:=15) (v:=(.slice (some ⟨g,0,none⟩) n cap)) rfl (by kernel_rfl) (by kernel_rfl) (by kernel_rfl) (by kernel_rfl) (fun _ _ _ h=>h) (Or.inl ⟨rfl,fun _ _=>rfl⟩) hq0 ?_
             simp only [ps]
             refine takeY (i:=3) (z:=15) (v:=(.int .i64 (j:Int))) rfl (by kernel_rfl) (by kernel_rfl) (by kernel_rfl) (by kernel_rfl) (fun _ _ _ h=>h) (Or.inl ⟨rfl,fun _ _=>rfl⟩) hq0 ?_
             simp only [ps]
             refine takeY (i:=4) (z:=15) (v:=(.int .i64 (q:Int))) rfl (by kernel_rfl) (by kernel_rfl) (by kernel_rfl) (by kernel_rfl) (fun _ _ _ h=>h) (Or.inl ⟨rfl,fun W' _=>by go_simp <;> (rw [IntKind.wrap_i64]; omega)⟩) hq0 ?_
             simp only [ps]
             refine takeY (i:=5) (z:=15) (v:=(.slice (some ⟨g,0,none⟩) n cap)) rfl (by kernel_rfl) (by kernel_rfl) (by kernel_rfl) (by kernel_rfl) (fun _ _ _ h=>h) (Or.inl ⟨rfl,fun _ _=>rfl⟩) hq0 ?_
             simp only [ps]
             refine takeY (i:=6) (z:=15) (v:=(.int .i64 (j:Int))) rfl (by kernel_rfl) (by kernel_rfl) (by kernel_rfl) (by kernel_rfl) (fun _ _ _ h=>h) (Or.inl ⟨rfl,fun _ _=>rfl⟩) hq0 ?_
             simp only [ps]
             refine takeY (i:=7) (z:=15) (v:=(.int .i64 (q:Int))) rfl (by kernel_rfl) (by kernel_rfl) (by kernel_rfl) (by kernel_rfl) (fun _ _ _ h=>h) (Or.inl ⟨rfl,fun W' _=>by go_simp <;> (rw [IntKind.wrap_i64]; omega)⟩) hq0 ?_
             simp only [ps]
             refine takeY (i:=8) (z:=15) (v:=(.pointer (some ⟨g,q,none⟩))) rfl (by kernel_rfl) (by kernel_rfl) (by kernel_rfl) (by kernel_rfl) (fun _ _ _ h=>h) (Or.inl ⟨rfl,fun W' _=>by go_simp <;> (intro h; omega)⟩) hq0 ?_
             simp only [ps]
             refine takeZ (i:=9) (z:=15) (v:=_) rfl rfl (by kernel_rfl) (by kernel_rfl) (by kernel_rfl) (by kernel_rfl) (by kernel_rfl) (by kernel_rfl) (fun _ _ _ h=>h) (yieldsIf_cell rfl 3 _ rfl ⟨g,q,none⟩ rfl (.int .i64 y) _ (fun W' hW'=>(show W'.cell? ⟨g,q,none⟩=_ from (NU2.out.ext hW').cell (by omega)).trans (by rw [hvq])) Try.underlying3 rfl) hq0 ?_
             simp only [ps]
             refine takeY (i:=10) (z:=15) (v:=(.slice (some ⟨g,0,none⟩) n cap)) rfl (by kernel_rfl) (by kernel_rfl) (by kernel_rfl) (by kernel_rfl) (fun _ _ _ h=>h) (Or.inl ⟨rfl,fun _ _=>rfl⟩) hq0 ?_
             simp only [ps]
             refine takeY (i:=11) (z:=15) (v:=(.int .i64 (j:Int))) rfl (by kernel_rfl) (by kernel_rfl) (by kernel_rfl) (by kernel_rfl) (fun _ _ _ h=>h) (Or.inl ⟨rfl,fun _ _=>rfl⟩) hq0 ?_
             simp only [ps]
             refine takeY (i:=12) (z:=15) (v:=(.pointer (some ⟨g,j,none⟩))) rfl (by kernel_rfl) (by kernel_rfl) (by kernel_rfl) (by kernel_rfl) (fun _ _ _ h=>h) (Or.inl ⟨rfl,fun W' _=>by go_simp <;> (intro h; omega)⟩) hq0 ?_
             simp only [ps]
             refine takeZ (i:=13) (z:=15) (v:=_) rfl rfl (by kernel_rfl) (by kernel_rfl) (by kernel_rfl) (by kernel_rfl) (by kernel_rfl) (by kernel_rfl) (fun _ _ _ h=>h) (yieldsIf_cell rfl 3 _ rfl ⟨g,j,none⟩ rfl (.int .i64 x) _ (fun W' hW'=>(show W'.cell? ⟨g,j,none⟩=_ from (NU2.out.ext hW').cell (by omega)).trans (by rw [hvp])) Try.underlying3 rfl) hq0 ?_
             simp only [ps]
             refine takeY (i:=14) (z:=15) (v:=(.pointer (some ⟨g,j,none⟩))) rfl (by kernel_rfl) (by kernel_rfl) (by kernel_rfl) (by kernel_rfl) (fun _ _ _ h=>h) (Or.inl ⟨rfl,fun W' _=>by go_simp <;> (intro h; omega)⟩) hq0 ?_
             simp only [ps]
             refine runZl (z:=15) rfl rfl (by kernel_rfl) (fun K hK=>?_)
             have hce:=(NU2.out.ext hq0)
             have hc1:wd.cell? ⟨g,j,none⟩=some (.int .i64 (at0 l (j))):=hce.cell (by omega)
             have hf1:=hce.froz (j)
             go_simp
             refine hK.out _ _ ?_
             try simp only [ps]
             clear hK K hc1 hf1
             have hce2:=hce.set (p:=j) (by omega) (at0 l (q))
             rw [hvq] at hce2
             have hq9:=(hq0.mut (fun k=>k=g)).setCell (p:=⟨g,j,none⟩) (.inl rfl) (.int .i64 y)
             refine tL 16 ((.pointer (some ⟨g,q,none⟩))) rfl (Or.inl ⟨rfl,fun W' _=>by go_simp <;> (intro h; omega)⟩) trivial ?_
             simp only [ps]
             refine runL (i:=17) rfl rfl (by kernel_rfl) (fun K hK=>?_)
             have hc2:(wd.setCell ⟨g,j,none⟩ (.int .i64 y)).cell? ⟨g,q,none⟩=some (.int .i64 (at0 (l.set (j) y) (q))):=hce2.cell (by simp; omega)
             have hf2:=hce2.froz (q)
             go_simp
             refine hK.out _ _ trivial (fun _=>?_)
             try simp only [ps]
             clear hK K hc2 hf2
             refine wpAnyH_done (by kernel_rfl) ?_ _
             have hce3:=hce2.set (p:=q) (by simp; omega) (at0 l (j))
             rw [hvp] at hce3
             have NU3:=Lib.hid (show Nums _ g (swl l (j) (q)) from by unfold swl; rw [hvp,hvq]; exact hce3)
             have MU3:=Lib.hid (hq9.setCell (p:=⟨g,q,none⟩) (.inl rfl) (.int .i64 x))
             clear hce hce2 hce3 hq9 hq0 hqx
             generalize (wd.setCell ⟨g,j,none⟩ (.int .i64 y)).setCell ⟨g,q,none⟩ (.int .i64 x)=wm at *
             go_wp2_with fail
             go_roundw
             case rel=>exact ⟨q,swl l j q,rfl,by have:=HJ.out; omega,NU3.out,by rw [swl_len]; exact hln,SO2.out,MU2.out.trans MU3.out⟩
             case measure=>have:=HJ.out; simp [intOf] <;> omega
         ·have d2:decide ((2:Int)≤(i:Int) - (a:Int))=false:=by simp; omega
          have d2b:decide ((i:Int) - (a:Int) ≥ (2:Int))=false:=by simp; omega
          have H2:=Lib.hid (show (swl l i ip).toArray=D1 from by
           have h:=HD1.out
           rw [if_neg h2] at h
           exact h)
          go_wp2_with fail
          go_meet
          case rel=>exact ⟨_,NU3.out,by rw [swl_len]; exact hln,H2.out,MU4.out⟩
        case rest =>
         obtain ⟨l2,hnu,hln2,hd1,hmu⟩:=hcut
         have NU5:=Lib.hid hnu
         have MU5:=Lib.hid hmu
         have HD5:=Lib.hid hd1
         clear hnu hmu hd1 H1 HD1 NU3 MU3 MU4 NU MU hln
         clear hw6
         rename World=>wy
         have hw7:IntKind.i64.wrap ((b:Int) - (i:Int))=(b:Int) - (i:Int):=by rw [IntKind.wrap_i64]; omega
         have TS9:=Lib.hid (show t+1+s=5 from by have:=TS.out; omega)
         have hut:IntKind.i64.wrap ((t:Int)+1)=((t+1:Nat):Int):=by have:=TS.out; rw [IntKind.wrap_i64]; omega
         by_cases h2:2≤b - i
         ·have d2:decide ((2:Int)≤(b:Int) - (i:Int))=true:=by simp; omega
          have d2b:decide ((b:Int) - (i:Int) ≥ (2:Int))=true:=by simp; omega
          have H2:=Lib.hid (show ∃ l2:List Int,Nums wy g l2∧l2.length=n∧Go.Sort.shiftUp ltI b i1 l2.toArray=D2∧Mut (fun k=>k=g) w wy from by
           have h:=HD2.out
           rw [if_pos h2,← HD5.out] at h
           exact ⟨_,NU5.out,hln2,h,MU5.out⟩)
          have hip2:i < i1∧i1≤n:=by have:=HII.out.2; omega
          clear NU5 MU5 HD5 hln2
          clear l2
          go_wp2_with fail
          clear d2 d2b hw7 hw5 h2
          go_loopw [10] (fun s wr=>∃ (j:Nat) (l:List Int),s=.int .i64 j∧(i < j∧j≤n)∧Nums wr g l∧l.length=n∧Go.Sort.shiftUp ltI b j l.toArray=D2∧Mut (fun k=>k=g) w wr) (fun s _=>n+1 - (intOf s).toNat)
          case atStart =>
           obtain ⟨l,q1,q2,q3,q4⟩:=H2.out
           exact ⟨i1,l,rfl,by omega,q1,q2,q3,q4⟩
          case round =>
           clear H2
           obtain ⟨j,l,rfl,hjb,hnu,hln,hso,hmu⟩:=hrel
           rename World=>wl
           have NU:=Lib.hid hnu
           have MU:=Lib.hid hmu
           have SO:=Lib.hid hso
           have JB:=Lib.hid hjb
           clear hnu hmu hso hjb
           have hij:i < j:=JB.out.1
           have hjn9:j≤n:=JB.out.2
           by_cases hjb:j < b
           ·have dj:decide ((j:Int) < (b:Int))=true:=by simp; omega
            obtain ⟨q,hq⟩:∃ q,j - 1=q:=⟨_,rfl⟩
            have HJ:=Lib.hid hq
            have hjn:j < n:=by omega
            have hqn:q < n:=by omega
            have hdn:IntKind.i64.wrap ((j:Int) - 1)=(q:Int):=by rw [IntKind.wrap_i64]; omega
            have hup:IntKind.i64.wrap ((j:Int)+1)=((j+1:Nat):Int):=by rw [IntKind.wrap_i64]; omega
            obtain ⟨x,hvp⟩:∃ x,at0 l j=x:=⟨_,rfl⟩
            obtain ⟨y,hvq⟩:∃ y,at0 l q=y:=⟨_,rfl⟩
            clear hq JB
            go_wp2_with fail
            refine beginL (S:=fun W'=>Ext wl W') (by kernel_rfl) ?_
            intro wd hqx
            have hq0:Ext wl wd:=hqx
            refine tLp 0 ((.slice (some ⟨g,0,none⟩) n cap)) rfl hq0 ?_
            simp only [ps]
            refine tLp 1 ((.int .i64 (j:Int))) rfl hq0 ?_
            simp only [ps]
            refine tL 2 ((.pointer (some ⟨g,j,none⟩))) rfl (Or.inl ⟨rfl,fun W' _=>by go_simp <;> (intro h; omega)⟩) hq0 ?_
            simp only [ps]
            refine tL 3 (_) rfl (yieldsIf_cell rfl 3 _ rfl ⟨g,j,none⟩ rfl (.int .i64 x) _ (fun W' hW'=>(show W'.cell? ⟨g,j,none⟩=_ from (NU.out.ext hW').cell (by omega)).trans (by rw [hvp])) Try.underlying3 rfl) hq0 ?_
            simp only [ps]
            refine tLp 4 ((.slice (some ⟨g,0,none⟩) n cap)) rfl hq0 ?_
            simp only [ps]
            refine tLp 5 ((.int .i64 (j:Int))) rfl hq0 ?_
            simp only [ps]
            refine tL 6 ((.int .i64 (q:Int))) rfl (Or.inl ⟨rfl,fun W' _=>by go_simp <;> (rw [IntKind.wrap_i64]; omega)⟩) hq0 ?_
            simp only [ps]
            refine tL 7 ((.pointer (some ⟨g,q,none⟩))) rfl (Or.inl ⟨rfl,fun W' _=>by go_simp <;> (intro h; omega)⟩) hq0 ?_
            simp only [ps]
            refine tL 8 (_) rfl (yieldsIf_cell rfl 3 _ rfl ⟨g,q,none⟩ rfl (.int .i64 y) _ (fun W' hW'=>(show W'.cell? ⟨g,q,none⟩=_ from (NU.out.ext hW').cell (by omega)).trans (by rw [hvq])) Try.underlying3 rfl) hq0 ?_
            simp only [ps]
            refine runL (i:=9) rfl rfl (by kernel_rfl) (fun K hK=>?_)
            go_simp
            refine (less_ext x y _).mono ?_
            rintro e wc1 ⟨rfl,hx⟩
            have hq1:=hq0.trans hx
            refine hK.out _ _ hq1 (fun hHeld=>?_)
            try simp only [ps]
            clear hK K hHeld
            refine tL 10 ((.bool (!(decide (x < y))))) rfl (Or.inl ⟨rfl,fun W' _=>by go_simp⟩) hq1 ?_
            simp only [ps]
            refine wpAnyH_done (by kernel_rfl) ?_ _
            have NU2:=Lib.hid (NU.out.ext hq1)
            have MU2:=Lib.hid (MU.out.trans (hq1.mut (fun k=>k=g)))
            clear hq0 hqx hq1
            generalize hwn0:wc1=w5 at *
            have HL:=Lib.hid (show ltI l.toArray[j]! l.toArray[q]! = decide (x < y) from by
             rw [arr_at l (by omega),arr_at l (by omega),hvp,hvq]
             rfl)
            obtain ⟨dx,hdx⟩:∃ dx,decide (x < y)=dx:=⟨_,rfl⟩
            rw [hdx] at HL ⊢
            clear hdx
            cases dx with
            | false =>
             have HD:=Lib.hid (show l.toArray=D2 from by
              have h3:=HL.out
              rw [← HJ.out] at h3
              rw [← SO.out,shu_stop b j _ h3])
             have SO7:=Lib.hid (show Go.Sort.partialIns ltI a b s i l.toArray=R from by rw [HD.out]; exact SO9.out)
             go_wp2_with fail
             go_roundw
             case rel=>exact ⟨i,t+1,s,l,rfl,by go_num,TS9.out,by have:=LB.out; omega,NU2.out,hln,SO7.out,MU2.out⟩
             case measure=>have:=TS.out; simp [intOf] <;> omega
            | true =>
             have SO2:=Lib.hid (show Go.Sort.shiftUp ltI b (j+1) (swl l j q).toArray=D2 from by
              have h3:=HL.out
              have h0:=SO.out
              rw [← HJ.out] at h3
              rw [shu_go b j _ hjb h3,HJ.out] at h0
              rw [swl_arr l (by omega) (by omega)]
              exact h0)
             clear SO
             go_wp2_with fail
             refine beginZ (S:=fun W'=>Ext w5 W') 15 (by kernel_rfl) ?_
             intro wd hqx
             have hq0:Ext w5 wd:=hqx
             refine takeY (i:=0) (z:=15) (v:=(.slice (some ⟨g,0,none⟩) n cap)) rfl (by kernel_rfl) (by kernel_rfl) (by kernel_rfl) (by kernel_rfl) (fun _ _ _ h=>h) (Or.inl ⟨rfl,fun _ _=>rfl⟩) hq0 ?_
             simp only [ps]
             refine takeY (i:=1) (z:=15) (v:=(.int .i64 (j:Int))) rfl (by kernel_rfl) (by kernel_rfl) (by kernel_rfl) (by kernel_rfl) (fun _ _ _ h=>h) (Or.inl ⟨rfl,fun _ _=>rfl⟩) hq0 ?_
             simp only [ps]
             refine takeY (i:=2) (z:=15) (v:=(.slice (some ⟨g,0,none⟩) n cap)) rfl (by kernel_rfl) (by kernel_rfl) (by kernel_rfl) (by kernel_rfl) (fun _ _ _ h=>h) (Or.inl ⟨rfl,fun _ _=>rfl⟩) hq0 ?_
             simp only [ps]
             refine takeY (i:=3) (z:=15) (v:=(.int .i64 (j:Int))) rfl (by kernel_rfl) (by kernel_rfl) (by kernel_rfl) (by kernel_rfl) (fun _ _ _ h=>h) (Or.inl ⟨rfl,fun _ _=>rfl⟩) hq0 ?_
             simp only [ps]
             refine takeY (i:=4) (z:=15) (v:=(.int .i64 (q:Int))) rfl (by kernel_rfl) (by kernel_rfl) (by kernel_rfl) (by kernel_rfl) (fun _ _ _ h=>h) (Or.inl ⟨rfl,fun W' _=>by go_simp <;> (rw [IntKind.wrap_i64]; omega)⟩) hq0 ?_
             simp only [ps]
             refine takeY (i:=5) (z:=15) (v:=(.slice (some ⟨g,0,none⟩) n cap)) rfl (by kernel_rfl) (by kernel_rfl) (by kernel_rfl) (by kernel_rfl) (fun _ _ _ h=>h) (Or.inl ⟨rfl,fun _ _=>rfl⟩) hq0 ?_
             simp only [ps]
             refine takeY (i:=6) (z:=15) (v:=(.int .i64 (j:Int))) rfl (by kernel_rfl) (by kernel_rfl) (by kernel_rfl) (by kernel_rfl) (fun _ _ _ h=>h) (Or.inl ⟨rfl,fun _ _=>rfl⟩) hq0 ?_
             simp only [ps]
             refine takeY (i:=7) (z:=15) (v:=(.int .i64 (q:Int))) rfl (by kernel_rfl) (by kernel_rfl) (by kernel_rfl) (by kernel_rfl) (fun _ _ _ h=>h) (Or.inl ⟨rfl,fun W' _=>by go_simp <;> (rw [IntKind.wrap_i64]; omega)⟩) hq0 ?_
             simp only [ps]
             refine takeY (i:=8) (z:=15) (v:=(.pointer (some ⟨g,q,none⟩))) rfl (by kernel_rfl) (by kernel_rfl) (by kernel_rfl) (by kernel_rfl) (fun _ _ _ h=>h) (Or.inl ⟨rfl,fun W' _=>by go_simp <;> (intro h; omega)⟩) hq0 ?_
             simp only [ps]
             refine takeZ (i:=9) (z:=15) (v:=_) rfl rfl (by kernel_rfl) (by kernel_rfl) (by kernel_rfl) (by kernel_rfl) (by kernel_rfl) (by kernel_rfl) (fun _ _ _ h=>h) (yieldsIf_cell rfl 3 _ rfl ⟨g,q,none⟩ rfl (.int .i64 y) _ (fun W' hW'=>(show W'.cell? ⟨g,q,none⟩=_ from (NU2.out.ext hW').cell (by omega)).trans (by rw [hvq])) Try.underlying3 rfl) hq0 ?_
             simp only [ps]
             refine takeY (i:=10) (z:=15) (v:=(.slice (some ⟨g,0,none⟩) n cap)) rfl (by kernel_rfl) (by kernel_rfl) (by kernel_rfl) (by kernel_rfl) (fun _ _ _ h=>h) (Or.inl ⟨rfl,fun _ _=>rfl⟩) hq0 ?_
             simp only [ps]
             refine takeY (i:=11) (z:=15) (v:=(.int .i64 (j:Int))) rfl (by kernel_rfl) (by kernel_rfl) (by kernel_rfl) (by kernel_rfl) (fun _ _ _ h=>h) (Or.inl ⟨rfl,fun _ _=>rfl⟩) hq0 ?_
             simp only [ps]
             refine takeY (i:=12) (z:=15) (v:=(.pointer (some ⟨g,j,none⟩))) rfl (by kernel_rfl) (by kernel_rfl) (by kernel_rfl) (by kernel_rfl) (fun _ _ _ h=>h) (Or.inl ⟨rfl,fun W' _=>by go_simp <;> (intro h; omega)⟩) hq0 ?_
             simp only [ps]
             refine takeZ (i:=13) (z:=15) (v:=_) rfl rfl (by kernel_rfl) (by kernel_rfl) (by kernel_rfl) (by kernel_rfl) (by kernel_rfl) (by kernel_rfl) (fun _ _ _ h=>h) (yieldsIf_cell rfl 3 _ rfl ⟨g,j,none⟩ rfl (.int .i64 x) _ (fun W' hW'=>(show W'.cell? ⟨g,j,none⟩=_ from (NU2.out.ext hW').cell (by omega)).trans (by rw [hvp])) Try.underlying3 rfl) hq0 ?_
             simp only [ps]
             refine takeY (i:=14) (z:=15) (v:=(.pointer (some ⟨g,j,none⟩))) rfl (by kernel_rfl) (by kernel_rfl) (by kernel_rfl) (by kernel_rfl) (fun _ _ _ h=>h) (Or.inl ⟨rfl,fun W' _=>by go_simp <;> (intro h; omega)⟩) hq0 ?_
             simp only [ps]
             refine runZl (z:=15) rfl rfl (by kernel_rfl) (fun K hK=>?_)
             have hce:=(NU2.out.ext hq0)
             have hc1:wd.cell? ⟨g,j,none⟩=some (.int .i64 (at0 l (j))):=hce.cell (by omega)
             have hf1:=hce.froz (j)
             go_simp
             refine hK.out _ _ ?_
             try simp only [ps]
             clear hK K hc1 hf1
             have hce2:=hce.set (p:=j) (by omega) (at0 l (q))
             rw [hvq] at hce2
             have hq9:=(hq0.mut (fun k=>k=g)).setCell (p:=⟨g,j,none⟩) (.inl rfl) (.int .i64 y)
             refine tL 16 ((.pointer (some ⟨g,q,none⟩))) rfl (Or.inl ⟨rfl,fun W' _=>by go_simp <;> (intro h; omega)⟩) trivial ?_
             simp only [ps]
             refine runL (i:=17) rfl rfl (by kernel_rfl) (fun K hK=>?_)
             have hc2:(wd.setCell ⟨g,j,none⟩ (.int .i64 y)).cell? ⟨g,q,none⟩=some (.int .i64 (at0 (l.set (j) y) (q))):=hce2.cell (by simp; omega)
             have hf2:=hce2.froz (q)
             go_simp
             refine hK.out _ _ trivial (fun _=>?_)
             try simp only [ps]
             clear hK K hc2 hf2
             refine wpAnyH_done (by kernel_rfl) ?_ _
             have hce3:=hce2.set (p:=q) (by simp; omega) (at0 l (j))
             rw [hvp] at hce3
             have NU3:=Lib.hid (show Nums _ g (swl l (j) (q)) from by unfold swl; rw [hvp,hvq]; exact hce3)
             have MU3:=Lib.hid (hq9.setCell (p:=⟨g,q,none⟩) (.inl rfl) (.int .i64 x))
             clear hce hce2 hce3 hq9 hq0 hqx
             generalize (wd.setCell ⟨g,j,none⟩ (.int .i64 y)).setCell ⟨g,q,none⟩ (.int .i64 x)=wm at *
             go_wp2_with fail
             go_roundw
             case rel=>exact ⟨j+1,swl l j q,rfl,by omega,NU3.out,by rw [swl_len]; exact hln,SO2.out,MU2.out.trans MU3.out⟩
             case measure=>simp [intOf] <;> omega
           ·have dj:decide ((j:Int) < (b:Int))=false:=by simp; omega
            have HD:=Lib.hid (show l.toArray=D2 from by rw [← SO.out,shu_end b j _ hjb])
            have SO7:=Lib.hid (show Go.Sort.partialIns ltI a b s i l.toArray=R from by rw [HD.out]; exact SO9.out)
            go_wp2_with fail
            go_roundw
            case rel=>exact ⟨i,t+1,s,l,rfl,by go_num,TS9.out,by have:=LB.out; omega,NU.out,hln,SO7.out,MU.out⟩
            case measure=>have:=TS.out; simp [intOf] <;> omega
         ·have d2:decide ((2:Int)≤(b:Int) - (i:Int))=false:=by simp; omega
          have d2b:decide ((b:Int) - (i:Int) ≥ (2:Int))=false:=by simp; omega
          have H2:=Lib.hid (show l2.toArray=D2 from by
           have h:=HD2.out
           rw [if_neg h2] at h
           rw [HD5.out,h])
          have SO7:=Lib.hid (show Go.Sort.partialIns ltI a b s i l2.toArray=R from by rw [H2.out]; exact SO9.out)
          go_wp2_with fail
          go_roundw
          case rel=>exact ⟨i,t+1,s,l2,rfl,by go_num,TS9.out,by have:=LB.out; omega,NU5.out,hln2,SO7.out,MU5.out⟩
          case measure=>have:=TS.out; simp [intOf] <;> omega
end Go.Proofs.Ytamnmjckhicapaa
namespace Go.Proofs.Ytamnmjckhicapaa
open Go.RowKit Go.BigFrame Go.WideShapes Go.ChangeShapes Go.Deep
set_option linter.unusedVariables false
set_option linter.unusedSimpArgs false
set_option maxRecDepth 100000
set_option maxRecDepth 100000
set_option maxRecDepth 100000 in
set_option maxHeartbeats 2000000 in
theorem meda_any (w:World) (g n cap q:Nat) (l:List Int) (s a:Nat) (ha0:1≤a) (ha:a+1 < n) (hn:n≤1000) (hs:s≤90) (h:Nums w g l) (hl:l.length=n) (hq:Cnt w q s) (hqg:q ≠ g) :
    Calls Try.prog 100 #[(.slice (some ⟨g,0,none⟩) n cap),.int .i64 a,.pointer (some ⟨q,0,none⟩)] w (MedP w q (Go.Sort.medianAdjacent ltI l.toArray a s)):=by
 obtain ⟨b,hb⟩:∃ b,b+1=a:=⟨a - 1,by omega⟩
 obtain ⟨c,hc⟩:∃ c,a+1=c:=⟨_,rfl⟩
 have hw1:IntKind.i64.wrap ((a:Int) - 1)=(b:Int):=by rw [IntKind.wrap_i64]; omega
 have hw2:IntKind.i64.wrap ((a:Int)+1)=(c:Int):=by rw [IntKind.wrap_i64]; omega
 have H1:=Lib.hid (med_any w g n cap q l s b a c (by omega) (by omega) (by omega) hn hs h hl hq hqg)
 have HE:=Lib.hid (show Go.Sort.medianAdjacent ltI l.toArray a s=Go.Sort.median ltI l.toArray b a c s from by
  unfold Go.Sort.medianAdjacent
  rw [show a - 1=b by omega,hc])
 clear h hq hb hc
 go_enter Try.func100,Try.ntmps100
 go_wp2_with fail
 refine H1.out.mono ?_
 rintro e w1 ⟨x,s',rfl,he,hq1,hm1⟩
 have HX:=Lib.hid he
 have HQ1:=Lib.hid hq1
 have HM1:=Lib.hid hm1
 clear he hq1 hm1
 go_wp2_with fail
 go_ret
 exact ⟨x,s',rfl,by rw [HE.out,HX.out],HQ1.out,HM1.out⟩
theorem wrapn {x:Nat} (h:x≤100000):IntKind.i64.wrap (x:Int)=x:=by rw [IntKind.wrap_i64]; omega
theorem al_one {P:Program} {ops:Array Oper} {rest:List Oper} {op:Oper} {a:Act} {w:World} {Q:Exit→Act→World→Prop} (hgd:op.guard=none) (ty:TypeId) (ho:op.op=.alloc ty)
    (kd:IntKind) (z:Int) (hz:∀ w,(zeroValue ty).run P w=.ok (.int kd z) w) (h:∀ (X:Nat) (w':World),w'.heap[X]?=some (.cells #[.int kd z] ty (0,0))→w.heap.size=X→Ext w w'→wpList P ops Q rest (a.put op.dst (.pointer (some ⟨X,0,none⟩))) w'):wpList P ops Q (op :: rest) a w :=
 wpList_plain hgd fun K hK=>by
  unfold Oper.wp execOp
  simp only [ho,Instr.alloc,newVar,newRow,Sem.run_bind,hz,Result.andThen_ok]
  go_simp
  exact hK _ _ (h _ _ (heap_alloc_new _ _) rfl ((Ext.refl w).alloc _))
def hintN:Go.Sort.Hint→Int
 | .unknown=>0
 | .increasing=>1
 | .decreasing=>2
def PickP (w:World) (r:Nat × Go.Sort.Hint) (e:Ending) (w':World):Prop:=∃ (x:Nat) (h:Go.Sort.Hint),e=.returned (.tuple #[.int .i64 x,.int .i64 (hintN h)])∧r=(x,h)∧Ext w w'
set_option maxRecDepth 100000 in
set_option maxHeartbeats 2000000 in
theorem pick_any (w:World) (g n cap:Nat) (l:List Int) (a b:Nat) (hab:a+12 < b) (hb:b≤n) (hn:n≤500) (h:Nums w g l) (hl:l.length=n) :
    Calls Try.prog 87 #[(.slice (some ⟨g,0,none⟩) n cap),.int .i64 a,.int .i64 b] w (PickP w (Go.Sort.choosePivot ltI l.toArray a b)):=by
 have NU:=Lib.hid h
 obtain ⟨m,hm⟩:∃ m,b - a=m:=⟨_,rfl⟩
 obtain ⟨q4,hq4⟩:∃ q,m / 4=q:=⟨_,rfl⟩
 obtain ⟨i,hi⟩:∃ i,a+q4=i:=⟨_,rfl⟩
 obtain ⟨q2,hq2⟩:∃ q,q4*2=q:=⟨_,rfl⟩
 obtain ⟨q3,hq3⟩:∃ q,q4*3=q:=⟨_,rfl⟩
 obtain ⟨j,hj⟩:∃ j,a+q2=j:=⟨_,rfl⟩
 obtain ⟨k,hk⟩:∃ k,a+q3=k:=⟨_,rfl⟩
 have hb1:1≤i:=by omega
 have hb2:i+1 < j:=by omega
 have hb3:j+1 < k:=by omega
 have hb4:k+1 < n:=by omega
 have hb5:8≤m:=by omega
 have hb6:m≤500:=by omega
 have HA:=Lib.hid (show i=a+m / 4*1 from by omega)
 have HB:=Lib.hid (show j=a+m / 4*2 from by omega)
 have HC:=Lib.hid (show k=a+m / 4*3 from by omega)
 have HM:=Lib.hid hm
 have g1:(a:Int)+(m:Int) / 4=(i:Nat):=by omega
 have g2:(a:Int)+(m:Int) / 4*2=(j:Nat):=by omega
 have g3:(a:Int)+(m:Int) / 4*3=(k:Nat):=by omega
 have g4:(b:Int) - (a:Int)=(m:Nat):=by omega
 have hw1:IntKind.i64.wrap ((b:Int) - (a:Int))=(m:Int):=(congrArg IntKind.i64.wrap g4).trans (wrapn (by omega))
 have G1:=Lib.hid g1
 have G2:=Lib.hid g2
 have G3:=Lib.hid g3
 clear g1 g2 g3 g4
 clear h hm hq4 hi hq2 hq3 hj hk
 go_enter Try.func87,Try.ntmps87
 go_upto_region 6 with (first
  | fail
  | ((with_reducible refine at_alloc 3 ?_); refine al_one rfl 3 rfl .i64 0 (fun _=>rfl) ?_
     intro q w1 hq0 hsz hx1))
 rw [G1.out,G2.out,G3.out]
 clear hw1
 have hqg:q ≠ g:=by have:=NU.out.lt; omega
 have HX1:=Lib.hid hx1
 have HSZ:=Lib.hid hsz
 have NU1:=Lib.hid (NU.out.ext hx1)
 have HQ0:=Lib.hid (show Cnt w1 q 0 from hq0)
 have keep:∀ (w2:World),Mut (fun k=>k=q) w1 w2→Nums w2 g l:=fun w2 hm=>by
  have hnn:=NU1.out
  have hlt:=hnn.lt
  obtain ⟨cur,e1,e2⟩:=hnn
  exact ⟨cur,(hm.heap hlt (fun hc=>hqg (show g=q from hc).symm)).trans e1,e2⟩
 have KEEP:=Lib.hid keep
 have fin:∀ (x s:Nat) (r:Nat × Nat),r=(x,s)→Go.Sort.choosePivot ltI l.toArray a b=(r.1,if r.2=0 then .increasing else if r.2=12 then .decreasing else .unknown)→∀ w2,Mut (fun k=>k=q) w1 w2→PickP w (Go.Sort.choosePivot ltI l.toArray a b) (.returned (.tuple #[.int .i64 (x:Nat),.int .i64 (if s=0 then 1 else if s=12 then 2 else 0)])) w2:=by
  intro x s r hr he w2 hm
  subst hr
  refine ⟨x,if s=0 then .increasing else if s=12 then .decreasing else .unknown,?_,he,Ext.mutE HX1.out hm (fun k hk hF=>by have h2:k=q:=hF; have:=HSZ.out; omega)⟩
  split
  ·rfl
  ·split <;> rfl
 have FIN:=Lib.hid fin
 clear hq0 hsz hx1 keep fin
 have d8:decide ((8:Int)≤(m:Int))=true:=by simp; omega
 have d8b:decide ((m:Int) ≥ (8:Int))=true:=by simp; omega
 by_cases h50:50≤m
 ·have d50:decide ((50:Int)≤(m:Int))=true:=by simp; omega
  have d50b:decide ((m:Int) ≥ (50:Int))=true:=by simp; omega
  go_wp2_with fail
  refine (meda_any w1 g n cap q l 0 i (by omega) (by omega) (by omega) (by omega) NU1.out hl HQ0.out hqg).mono ?_
  rintro e w2 ⟨x1,s1,rfl,he,hq,hm⟩
  have hc21:=Go.Sort.medianAdjacent_count (lt:=ltI) l.toArray i 0
  have hb31:=Go.Sort.medianAdjacent_mem ltI l.toArray i 0
  rw [he] at hc21 hb31
  dsimp only at hc21 hb31
  have E1:=Lib.hid he
  have HQ1:=Lib.hid (show Cnt w2 q s1 from hq)
  have HM1:=Lib.hid ((Mut.refl _ w1).trans hm)
  have NU2:=Lib.hid (KEEP.out _ HM1.out)
  clear he hq hm
  go_wp2_with fail
  refine (meda_any w2 g n cap q l s1 j (by omega) (by omega) (by omega) (by omega) NU2.out hl HQ1.out hqg).mono ?_
  rintro e w3 ⟨x2,s2,rfl,he,hq,hm⟩
  have hc22:=Go.Sort.medianAdjacent_count (lt:=ltI) l.toArray j s1
  have hb32:=Go.Sort.medianAdjacent_mem ltI l.toArray j s1
  rw [he] at hc22 hb32
  dsimp only at hc22 hb32
  have E2:=Lib.hid he
  have HQ2:=Lib.hid (show Cnt w3 q s2 from hq)
  have HM2:=Lib.hid ((HM1.out).trans hm)
  have NU3:=Lib.hid (KEEP.out _ HM2.out)
  clear he hq hm
  go_wp2_with fail
  refine (meda_any w3 g n cap q l s2 k (by omega) (by omega) (by omega) (by omega) NU3.out hl HQ2.out hqg).mono ?_
  rintro e w4 ⟨x3,s3,rfl,he,hq,hm⟩
  have hc23:=Go.Sort.medianAdjacent_count (lt:=ltI) l.toArray k s2
  have hb33:=Go.Sort.medianAdjacent_mem ltI l.toArray k s2
  rw [he] at hc23 hb33
  dsimp only at hc23 hb33
  have E3:=Lib.hid he
  have HQ3:=Lib.hid (show Cnt w4 q s3 from hq)
  have HM3:=Lib.hid ((HM2.out).trans hm)
  have NU4:=Lib.hid (KEEP.out _ HM3.out)
  clear he hq hm
  go_wp2_with fail
  have HD:=Lib.hid (show Go.Sort.choosePivot ltI l.toArray a b=((Go.Sort.median ltI l.toArray x1 x2 x3 s3).1,if (Go.Sort.median ltI l.toArray x1 x2 x3 s3).2=0 then .increasing else if (Go.Sort.median ltI l.toArray x1 x2 x3 s3).2=12 then .decreasing else .unknown) from by
   unfold Go.Sort.choosePivot
   dsimp only
   rw [HM.out,← HA.out,← HB.out,← HC.out,if_pos hb5,if_pos h50,E1.out]
   dsimp only
   rw [E2.out]
   dsimp only
   rw [E3.out])
  clear E1 E2 E3
  have hm9:=HM3.out
  refine (med_any w4 g n cap q l s3 x1 x2 x3 (by omega) (by omega) (by omega) (by omega) (by omega) NU4.out hl HQ3.out hqg).mono ?_
  rintro e w9 ⟨x,s,rfl,he,hq,hm⟩
  have FX:=Lib.hid (FIN.out x s _ he HD.out w9 (hm9.trans hm))
  have cq:w9.cell? ⟨q,0,none⟩=some (.int .i64 s):=by rw [cell_row hq]; rfl
  clear he hq hm hm9 HD
  by_cases hs0:s=0
  ·subst hs0
   go_wp2_with fail
   go_ret2
   exact FX.out
  ·by_cases hs1:s=12
   ·subst hs1
    go_wp2_with fail
    go_ret2
    exact FX.out
   ·have g0:((s:Int) == 0)=false:=by simp; omega
    have g1:((s:Int) == 12)=false:=by simp; omega
    have g2:decide ((s:Int)=0)=false:=by simp; omega
    have g3:decide ((s:Int)=12)=false:=by simp; omega
    rw [if_neg hs0,if_neg hs1] at FX
    go_wp2_with fail
    go_ret2
    exact FX.out
 ·have d50:decide ((50:Int)≤(m:Int))=false:=by simp; omega
  have d50b:decide ((m:Int) ≥ (50:Int))=false:=by simp; omega
  go_wp2_with fail
  have HD:=Lib.hid (show Go.Sort.choosePivot ltI l.toArray a b=((Go.Sort.median ltI l.toArray i j k 0).1,if (Go.Sort.median ltI l.toArray i j k 0).2=0 then .increasing else if (Go.Sort.median ltI l.toArray i j k 0).2=12 then .decreasing else .unknown) from by
   unfold Go.Sort.choosePivot
   dsimp only
   rw [HM.out,← HA.out,← HB.out,← HC.out,if_pos hb5,if_neg h50])
  have hm9:=Mut.refl (fun k=>k=q) w1
  refine (med_any w1 g n cap q l 0 i j k (by omega) (by omega) (by omega) (by omega) (by omega) NU1.out hl HQ0.out hqg).mono ?_
  rintro e w9 ⟨x,s,rfl,he,hq,hm⟩
  have FX:=Lib.hid (FIN.out x s _ he HD.out w9 (hm9.trans hm))
  have cq:w9.cell? ⟨q,0,none⟩=some (.int .i64 s):=by rw [cell_row hq]; rfl
  clear he hq hm hm9 HD
  by_cases hs0:s=0
  ·subst hs0
   go_wp2_with fail
   go_ret2
   exact FX.out
  ·by_cases hs1:s=12
   ·subst hs1
    go_wp2_with fail
    go_ret2
    exact FX.out
   ·have g0:((s:Int) == 0)=false:=by simp; omega
    have g1:((s:Int) == 12)=false:=by simp; omega
    have g2:decide ((s:Int)=0)=false:=by simp; omega
    have g3:decide ((s:Int)=12)=false:=by simp; omega
    rw [if_neg hs0,if_neg hs1] at FX
    go_wp2_with fail
    go_ret2
    exact FX.out
end Go.Proofs.Ytamnmjckhicapaa
namespace Go.Proofs.Ytamnmjckhicapaa
open Go.RowKit Go.BigFrame Go.WideShapes Go.ChangeShapes Go.Deep
set_option linter.unusedVariables false
set_option linter.unusedSimpArgs false
set_option maxRecDepth 100000
set_option maxRecDepth 100000
set_option maxRecDepth 100000 in
set_option maxHeartbeats 8000000 in
theorem len64x_any (n:Nat) (hn:n≤60) (w:World):Calls Try.prog 94 #[.int .u64 n] w fun e w'=>e=.returned (.int .i64 ((Go.Sort.bitsLen n:Nat):Int))∧w'=w:=by
 have hc:n=0∨n=1∨n=2∨n=3∨n=4∨n=5∨n=6∨n=7∨n=8∨n=9∨n=10∨n=11∨n=12∨n=13∨n=14∨n=15∨n=16∨n=17∨n=18∨n=19∨n=20∨n=21∨n=22∨n=23∨n=24∨n=25∨n=26∨n=27∨n=28∨n=29∨n=30∨n=31∨n=32∨n=33∨n=34∨n=35∨n=36∨n=37∨n=38∨n=39∨n=40∨n=41∨n=42∨n=43∨n=44∨n=45∨n=46∨n=47∨n=48∨n=49∨n=50∨n=51∨n=52∨n=53∨n=54∨n=55∨n=56∨n=57∨n=58∨n=59∨n=60:=by omega
 clear hn
 rcases hc with rfl | rfl | rfl | rfl | rfl | rfl | rfl | rfl | rfl | rfl | rfl | rfl | rfl | rfl | rfl | rfl | rfl | rfl | rfl | rfl | rfl | rfl | rfl | rfl | rfl | rfl | rfl | rfl | rfl | rfl | rfl | rfl | rfl | rfl | rfl | rfl | rfl | rfl | rfl | rfl | rfl | rfl | rfl | rfl | rfl | rfl | rfl | rfl | rfl | rfl | rfl | rfl | rfl | rfl | rfl | rfl | rfl | rfl | rfl | rfl | rfl <;>
 ·go_enter Try.func94,Try.ntmps94
  go_wp2
  go_ret
  exact ⟨congrArg (fun z:Int=>Ending.returned (Value.int .i64 z)) (by decide +kernel),rfl⟩
theorem lenx_any (n:Nat) (hn:n≤60) (w:World):Calls Try.prog 73 #[.int .u64 n] w fun e w'=>e=.returned (.int .i64 ((Go.Sort.bitsLen n:Nat):Int))∧w'=w:=by
 have H:=Lib.hid (len64x_any n hn)
 obtain ⟨k,hk⟩:∃ k,Go.Sort.bitsLen n=k:=⟨_,rfl⟩
 rw [hk] at H ⊢
 clear hk
 go_enter Try.func73,Try.ntmps73
 go_wp2_with fail
 refine (H.out _).mono ?_
 rintro e w1 ⟨rfl,rfl⟩
 go_wp2_with fail
 go_ret
 exact ⟨rfl,rfl⟩
theorem len_6 {n:Nat} (hn:n≤60):Go.Sort.bitsLen n≤6:=(Go.Sort.bitsLen_le_iff n 6).2 (by omega)
theorem pow_any (n:Nat) (hn:n≤60) (w:World):Calls Try.prog 98 #[.int .i64 n] w fun e w'=>e=.returned (.int .u64 ((1 <<< Go.Sort.bitsLen n:Nat):Int))∧w'=w:=by
 have H:=Lib.hid (lenx_any n hn)
 have h6:=len_6 hn
 obtain ⟨k,hk⟩:∃ k,Go.Sort.bitsLen n=k:=⟨_,rfl⟩
 rw [hk] at H h6 ⊢
 clear hk
 have hw:IntKind.u64.wrap (n:Int)=n:=by rw [IntKind.wrap_u64]; omega
 have hc:k=0∨k=1∨k=2∨k=3∨k=4∨k=5∨k=6:=by omega
 clear h6
 rcases hc with rfl | rfl | rfl | rfl | rfl | rfl | rfl <;>
 ·go_enter Try.func98,Try.ntmps98
  go_wp2_with fail
  refine (H.out _).mono ?_
  rintro e w1 ⟨rfl,rfl⟩
  go_wp2_with fail
  go_ret
  exact ⟨rfl,rfl⟩
end Go.Proofs.Ytamnmjckhicapaa
