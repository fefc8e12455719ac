/- Part 6 of what PlanVersions stands on. No statement is proved here. -/
import Derived.Deep.CutRange
import Derived.Deep.DeepCutAuto
import Derived.Sort.LotC
import Derived.Test.YtamnmjckhicapaaPtFe
namespace Go.Proofs.Ytamnmjckhicapaa
open Go.RowKit Go.BigFrame Go.WideShapes Go.ChangeShapes Go.Deep
set_option linter.unusedVariables false
set_option linter.unusedSimpArgs false
set_option maxRecDepth 100000
set_option maxRecDepth 100000
set_option maxRecDepth 100000 in
set_option maxHeartbeats 2000000 in
theorem heap_any (w:World) (g n cap:Nat) (l0:List Int) (a b:Nat) (hab:a < b) (hb:b≤n) (hn:n≤500) (h:Nums w g l0) (hl:l0.length=n) :
    Calls Try.prog 85 #[(.slice (some ⟨g,0,none⟩) n cap),.int .i64 a,.int .i64 b] w fun e w'=>e=.returned (.tuple #[])∧SoP w g n (Go.Sort.heapSort ltI l0.toArray a b) w':=by
 obtain ⟨m,hm⟩:∃ m,b - a=m:=⟨_,rfl⟩
 obtain ⟨k0,hk0⟩:∃ k0,(m - 1) / 2+1=k0:=⟨_,rfl⟩
 have H0:=Lib.hid (show ∃ l:List Int,Nums w g l∧l.length=n∧Go.Sort.heapPop ltI a m (Go.Sort.heapBuild ltI m a k0 l.toArray)=Go.Sort.heapSort ltI l0.toArray a b∧Mut (fun k=>k=g) w w from ⟨l0,h,hl,by unfold Go.Sort.heapSort; rw [hm,hk0],Mut.refl _ w⟩)
 generalize Go.Sort.heapSort ltI l0.toArray a b=D at *
 obtain ⟨m1,hm1⟩:∃ m1,m - 1=m1:=⟨_,rfl⟩
 obtain ⟨t0,ht0⟩:∃ t0,k0 - 1=t0:=⟨_,rfl⟩
 have HK0:=Lib.hid (show t0+1=k0∧k0≤n∧m1+1=m by omega)
 have hw1:IntKind.i64.wrap ((b:Int) - (a:Int))=(m:Int):=by rw [IntKind.wrap_i64]; omega
 have hw2:IntKind.i64.wrap ((m:Int) - 1)=(m1:Int):=by rw [IntKind.wrap_i64]; omega
 have hw3:RowKit.wrap64 ((m1:Int) / 2)=(t0:Int):=by
  unfold RowKit.wrap64; omega
 have hmn:a+m≤n:=by omega
 have hm0:1≤m:=by omega
 clear h hl hk0 ht0 hm hm1
 go_enter Try.func85,Try.ntmps85
 go_wp2_with fail
 rw [hw3]
 clear hw3
 go_loopw [9] (fun s wr=>∃ (t:Int) (k:Nat) (l:List Int),s=.int .i64 t∧t+1=(k:Int)∧k≤n∧Nums wr g l∧l.length=n∧Go.Sort.heapPop ltI a m (Go.Sort.heapBuild ltI m a k l.toArray)=D∧Mut (fun k=>k=g) w wr) (fun s _=>(intOf s+1).toNat)
 case atStart =>
  obtain ⟨l,q1,q2,q3,q4⟩:=H0.out
  exact ⟨_,k0,l,rfl,by have:=HK0.out; omega,HK0.out.2.1,q1,q2,q3,q4⟩
 case round =>
  clear H0
  obtain ⟨t,k,l,rfl,htk,hkn,hnu,hln,hsd,hmu⟩:=hrel
  rename World=>wl
  have NU:=Lib.hid hnu
  have MU:=Lib.hid hmu
  have SDH:=Lib.hid hsd
  clear hnu hmu hsd
  cases k with
  | succ k =>
   obtain rfl:t=(k:Int):=by omega
   have dk:decide ((0:Int)≤(k:Int))=true:=by simp
   obtain ⟨t',ht'⟩:∃ t':Int,t'+1=(k:Int):=⟨(k:Int) - 1,by omega⟩
   have hdn:IntKind.i64.wrap ((k:Int) - 1)=t':=by rw [IntKind.wrap_i64]; omega
   clear htk
   go_wp2_with fail
   refine (sift_any wl g n cap l k m a (by omega) hmn hn NU.out hln).mono ?_
   rintro e w5 ⟨rfl,l2,hnu2,hln2,hl2,hmu2⟩
   have NU2:=Lib.hid hnu2
   have MU2:=Lib.hid (MU.out.trans hmu2)
   have HD2:=Lib.hid (show Go.Sort.heapPop ltI a m (Go.Sort.heapBuild ltI m a k l2.toArray)=D from by rw [hl2]; exact SDH.out)
   clear hnu2 hmu2 hl2
   go_wp2_with fail
   go_roundw
   case rel=>exact ⟨t',k,l2,rfl,ht',by omega,NU2.out,hln2,HD2.out,MU2.out⟩
   case measure=>simp [intOf] <;> omega
  | zero =>
   have dk:decide ((0:Int)≤t)=false:=by simp; omega
   have H1:=Lib.hid (show Go.Sort.heapPop ltI a m l.toArray=D from SDH.out)
   go_wp2_with fail
   go_loopw [10] (fun s wr=>∃ (t:Int) (k:Nat) (l:List Int),s=.int .i64 t∧t+1=(k:Int)∧k≤m∧Nums wr g l∧l.length=n∧Go.Sort.heapPop ltI a k l.toArray=D∧Mut (fun k=>k=g) w wr) (fun s _=>(intOf s+1).toNat)
   case atStart=>exact ⟨_,m,l,rfl,by have:=HK0.out; omega,Nat.le_refl _,NU.out,hln,H1.out,MU.out⟩
   case round =>
    clear H1 SDH NU MU dk
    obtain ⟨t,k,l,rfl,htk,hkm,hnu,hln,hsd,hmu⟩:=hrel
    rename World=>wl
    have NU:=Lib.hid hnu
    have MU:=Lib.hid hmu
    have SDH:=Lib.hid hsd
    clear hnu hmu hsd
    cases k with
    | succ k =>
     obtain rfl:t=(k:Int):=by omega
     have dk:decide ((0:Int)≤(k:Int))=true:=by simp
     obtain ⟨t',ht'⟩:∃ t':Int,t'+1=(k:Int):=⟨(k:Int) - 1,by omega⟩
     have hdn:IntKind.i64.wrap ((k:Int) - 1)=t':=by rw [IntKind.wrap_i64]; omega
     obtain ⟨pa,hpa⟩:∃ pa,a+k=pa:=⟨_,rfl⟩
     obtain ⟨x,hvp⟩:∃ x,at0 l a=x:=⟨_,rfl⟩
     obtain ⟨y,hvq⟩:∃ y,at0 l pa=y:=⟨_,rfl⟩
     clear htk
     go_wp2_with fail
     refine beginZ (S:=fun W'=>Ext wl W') 17 (by kernel_rfl) ?_
     intro wd hqx
     have hq0:Ext wl wd:=hqx
     refine takeY (i:=0) (z:=17) (v:=(.slice (some ⟨g,0,none⟩) n cap)) rfl (by kernel_rfl) (by kernel_rfl) (by kernel_rfl) (by kernel_rfl) (fun _ _ _ h=>h) (Or.inl ⟨rfl,fun _ _=>rfl⟩) hq0 ?_
     simp only [ps]
     refine takeY (i:=1) (z:=17) (v:=(.int .i64 (a:Int))) rfl (by kernel_rfl) (by kernel_rfl) (by kernel_rfl) (by kernel_rfl) (fun _ _ _ h=>h) (Or.inl ⟨rfl,fun _ _=>rfl⟩) hq0 ?_
     simp only [ps]
     refine takeY (i:=2) (z:=17) (v:=(.slice (some ⟨g,0,none⟩) n cap)) rfl (by kernel_rfl) (by kernel_rfl) (by kernel_rfl) (by kernel_rfl) (fun _ _ _ h=>h) (Or.inl ⟨rfl,fun _ _=>rfl⟩) hq0 ?_
     simp only [ps]
     refine takeY (i:=3) (z:=17) (v:=(.int .i64 (a:Int))) rfl (by kernel_rfl) (by kernel_rfl) (by kernel_rfl) (by kernel_rfl) (fun _ _ _ h=>h) (Or.inl ⟨rfl,fun _ _=>rfl⟩) hq0 ?_
     simp only [ps]
     refine takeY (i:=4) (z:=17) (v:=(.int .i64 (k:Int))) rfl (by kernel_rfl) (by kernel_rfl) (by kernel_rfl) (by kernel_rfl) (fun _ _ _ h=>h) (Or.inl ⟨rfl,fun _ _=>rfl⟩) hq0 ?_
     simp only [ps]
     refine takeY (i:=5) (z:=17) (v:=(.int .i64 (pa:Int))) rfl (by kernel_rfl) (by kernel_rfl) (by kernel_rfl) (by kernel_rfl) (fun _ _ _ h=>h) (Or.inl ⟨rfl,fun W' _=>by go_simp <;> (rw [IntKind.wrap_i64]; omega)⟩) hq0 ?_
     simp only [ps]
     refine takeY (i:=6) (z:=17) (v:=(.slice (some ⟨g,0,none⟩) n cap)) rfl (by kernel_rfl) (by kernel_rfl) (by kernel_rfl) (by kernel_rfl) (fun _ _ _ h=>h) (Or.inl ⟨rfl,fun _ _=>rfl⟩) hq0 ?_
     simp only [ps]
     refine takeY (i:=7) (z:=17) (v:=(.int .i64 (a:Int))) rfl (by kernel_rfl) (by kernel_rfl) (by kernel_rfl) (by kernel_rfl) (fun _ _ _ h=>h) (Or.inl ⟨rfl,fun _ _=>rfl⟩) hq0 ?_
     simp only [ps]
     refine takeY (i:=8) (z:=17) (v:=(.int .i64 (k:Int))) rfl (by kernel_rfl) (by kernel_rfl) (by kernel_rfl) (by kernel_rfl) (fun _ _ _ h=>h) (Or.inl ⟨rfl,fun _ _=>rfl⟩) hq0 ?_
     simp only [ps]
     refine takeY (i:=9) (z:=17) (v:=(.int .i64 (pa:Int))) rfl (by kernel_rfl) (by kernel_rfl) (by kernel_rfl) (by kernel_rfl) (fun _ _ _ h=>h) (Or.inl ⟨rfl,fun W' _=>by go_simp <;> (rw [IntKind.wrap_i64]; omega)⟩) hq0 ?_
     simp only [ps]
     refine takeY (i:=10) (z:=17) (v:=(.pointer (some ⟨g,pa,none⟩))) rfl (by kernel_rfl) (by kernel_rfl) (by kernel_rfl) (by kernel_rfl) (fun _ _ _ h=>h) (Or.inl ⟨rfl,fun W' _=>by go_simp <;> (intro h; omega)⟩) hq0 ?_
     simp only [ps]
     refine takeZ (i:=11) (z:=17) (v:=_) rfl rfl (by kernel_rfl) (by kernel_rfl) (by kernel_rfl) (by kernel_rfl) (by kernel_rfl) (by kernel_rfl) (fun _ _ _ h=>h) (yieldsIf_cell rfl 3 _ rfl ⟨g,pa,none⟩ rfl (.int .i64 y) _ (fun W' hW'=>(show W'.cell? ⟨g,pa,none⟩=_ from (NU.out.ext hW').cell (by omega)).trans (by rw [hvq])) Try.underlying3 rfl) hq0 ?_
     simp only [ps]
     refine takeY (i:=12) (z:=17) (v:=(.slice (some ⟨g,0,none⟩) n cap)) rfl (by kernel_rfl) (by kernel_rfl) (by kernel_rfl) (by kernel_rfl) (fun _ _ _ h=>h) (Or.inl ⟨rfl,fun _ _=>rfl⟩) hq0 ?_
     simp only [ps]
     refine takeY (i:=13) (z:=17) (v:=(.int .i64 (a:Int))) rfl (by kernel_rfl) (by kernel_rfl) (by kernel_rfl) (by kernel_rfl) (fun _ _ _ h=>h) (Or.inl ⟨rfl,fun _ _=>rfl⟩) hq0 ?_
     simp only [ps]
     refine takeY (i:=14) (z:=17) (v:=(.pointer (some ⟨g,a,none⟩))) rfl (by kernel_rfl) (by kernel_rfl) (by kernel_rfl) (by kernel_rfl) (fun _ _ _ h=>h) (Or.inl ⟨rfl,fun W' _=>by go_simp <;> (intro h; omega)⟩) hq0 ?_
     simp only [ps]
     refine takeZ (i:=15) (z:=17) (v:=_) rfl rfl (by kernel_rfl) (by kernel_rfl) (by kernel_rfl) (by kernel_rfl) (by kernel_rfl) (by kernel_rfl) (fun _ _ _ h=>h) (yieldsIf_cell rfl 3 _ rfl ⟨g,a,none⟩ rfl (.int .i64 x) _ (fun W' hW'=>(show W'.cell? ⟨g,a,none⟩=_ from (NU.out.ext hW').cell (by omega)).trans (by rw [hvp])) Try.underlying3 rfl) hq0 ?_
     simp only [ps]
     refine takeY (i:=16) (z:=17) (v:=(.pointer (some ⟨g,a,none⟩))) rfl (by kernel_rfl) (by kernel_rfl) (by kernel_rfl) (by kernel_rfl) (fun _ _ _ h=>h) (Or.inl ⟨rfl,fun W' _=>by go_simp <;> (intro h; omega)⟩) hq0 ?_
     simp only [ps]
     refine runZl (z:=17) rfl rfl (by kernel_rfl) (fun K hK=>?_)
     have hce:=(NU.out.ext hq0)
     have hc1:wd.cell? ⟨g,a,none⟩=some (.int .i64 (at0 l (a))):=hce.cell (by omega)
     have hf1:=hce.froz (a)
     go_simp
     refine hK.out _ _ ?_
     try simp only [ps]
     clear hK K hc1 hf1
     have hce2:=hce.set (p:=a) (by omega) (at0 l (pa))
     rw [hvq] at hce2
     have hq9:=(hq0.mut (fun k=>k=g)).setCell (p:=⟨g,a,none⟩) (.inl rfl) (.int .i64 y)
     refine tL 18 ((.pointer (some ⟨g,pa,none⟩))) rfl (Or.inl ⟨rfl,fun W' _=>by go_simp <;> (intro h; omega)⟩) trivial ?_
     simp only [ps]
     refine runL (i:=19) rfl rfl (by kernel_rfl) (fun K hK=>?_)
     have hc2:(wd.setCell ⟨g,a,none⟩ (.int .i64 y)).cell? ⟨g,pa,none⟩=some (.int .i64 (at0 (l.set (a) y) (pa))):=hce2.cell (by simp; omega)
     have hf2:=hce2.froz (pa)
     go_simp
     refine hK.out _ _ trivial (fun _=>?_)
     try simp only [ps]
     clear hK K hc2 hf2
     refine wpAnyH_done (by kernel_rfl) ?_ _
     have hce3:=hce2.set (p:=pa) (by simp; omega) (at0 l (a))
     rw [hvp] at hce3
     have NU3:=Lib.hid (show Nums _ g (swl l (a) (pa)) from by unfold swl; rw [hvp,hvq]; exact hce3)
     have MU3:=Lib.hid (hq9.setCell (p:=⟨g,pa,none⟩) (.inl rfl) (.int .i64 x))
     clear hce hce2 hce3 hq9 hq0 hqx
     generalize (wd.setCell ⟨g,a,none⟩ (.int .i64 y)).setCell ⟨g,pa,none⟩ (.int .i64 x)=wm at *
     have HD3:=Lib.hid (show Go.Sort.heapPop ltI a k (Go.Sort.siftDown ltI k a 0 (swl l a pa).toArray)=D from by
      have:=SDH.out
      rw [swl_arr l (by omega) (by omega),← hpa]
      exact this)
     clear hvp hvq SDH
     go_wp2_with fail
     refine (sift_any wm g n cap (swl l a pa) 0 k a (by omega) (by omega) hn NU3.out (by rw [swl_len]; exact hln)).mono ?_
     rintro e w5 ⟨rfl,l2,hnu2,hln2,hl2,hmu2⟩
     have NU2:=Lib.hid hnu2
     have MU2:=Lib.hid (MU.out.trans (MU3.out.trans hmu2))
     have HD2:=Lib.hid (show Go.Sort.heapPop ltI a k l2.toArray=D from by rw [hl2]; exact HD3.out)
     clear hnu2 hmu2 hl2
     go_wp2_with fail
     go_roundw
     case rel=>exact ⟨t',k,l2,rfl,ht',by omega,NU2.out,hln2,HD2.out,MU2.out⟩
     case measure=>simp [intOf] <;> omega
    | zero =>
     have dk:decide ((0:Int)≤t)=false:=by simp; omega
     go_wp2_with fail
     go_end0
     exact ⟨rfl,l,NU.out,hln,SDH.out,MU.out⟩
end Go.Proofs.Ytamnmjckhicapaa
namespace Go.Proofs.Ytamnmjckhicapaa
open Go.RowKit Go.BigFrame Go.WideShapes Go.ChangeShapes Go.Deep
set_option linter.unusedVariables false
set_option linter.unusedSimpArgs false
set_option maxRecDepth 100000
set_option maxRecDepth 100000
theorem ins_stop (a j:Nat) (d:Array Int) (h:¬ (a < j∧ltI d[j]! d[j - 1]! = true)):Go.Sort.insInner ltI a j d=d:=by
 cases j with
 | zero=>rfl
 | succ j =>
  rw [Go.Sort.insInner,if_neg]
  intro h2
  rw [Bool.and_eq_true,decide_eq_true_eq] at h2
  exact h h2
theorem ins_go (a j:Nat) (d:Array Int) (h1:a < j+1) (h2:ltI d[j+1]! d[j]! = true):Go.Sort.insInner ltI a (j+1) d=Go.Sort.insInner ltI a j (Go.Sort.swp d (j+1) j):=by
 rw [Go.Sort.insInner,if_pos]
 rw [Bool.and_eq_true,decide_eq_true_eq]
 exact ⟨h1,h2⟩
theorem ins_out (a b i:Nat) (d:Array Int) (h:i < b):Go.Sort.insOuter ltI a b i d=Go.Sort.insOuter ltI a b (i+1) (Go.Sort.insInner ltI a i d):=by
 rw [Go.Sort.insOuter,if_pos h]
theorem ins_end (a b i:Nat) (d:Array Int) (h:¬ i < b):Go.Sort.insOuter ltI a b i d=d:=by
 rw [Go.Sort.insOuter,if_neg h]
set_option maxRecDepth 100000 in
set_option maxHeartbeats 2000000 in
theorem insr_any (w:World) (g n cap:Nat) (l0:List Int) (a b:Nat) (hab:a≤b) (hb:b≤n) (hn:n≤500) (h:Nums w g l0) (hl:l0.length=n) :
    Calls Try.prog 84 #[(.slice (some ⟨g,0,none⟩) n cap),.int .i64 a,.int .i64 b] w fun e w'=>e=.returned (.tuple #[])∧SoP w g n (Go.Sort.insertionSort ltI l0.toArray a b) w':=by
 obtain ⟨a1,ha1⟩:∃ a1,a+1=a1:=⟨_,rfl⟩
 have H0:=Lib.hid (show ∃ l:List Int,Nums w g l∧l.length=n∧Go.Sort.insOuter ltI a b a1 l.toArray=Go.Sort.insertionSort ltI l0.toArray a b∧Mut (fun k=>k=g) w w from ⟨l0,h,hl,by rw [← ha1]; rfl,Mut.refl _ w⟩)
 generalize Go.Sort.insertionSort ltI l0.toArray a b=D at *
 have hw1:IntKind.i64.wrap ((a:Int)+1)=(a1:Int):=by rw [IntKind.wrap_i64]; omega
 have HA1:=Lib.hid ha1
 clear h hl ha1
 go_enter Try.func84,Try.ntmps84
 go_wp2_with fail
 go_loopw [6] (fun s wr=>∃ (i:Nat) (l:List Int),s=.int .i64 i∧a1≤i∧i≤n+1∧Nums wr g l∧l.length=n∧Go.Sort.insOuter ltI a b i l.toArray=D∧Mut (fun k=>k=g) w wr) (fun s _=>n+1 - (intOf s).toNat)
 case atStart =>
  obtain ⟨l,q1,q2,q3,q4⟩:=H0.out
  exact ⟨a1,l,rfl,by omega,by have:=HA1.out; omega,q1,q2,q3,q4⟩
 case round =>
  clear H0 hw1
  obtain ⟨i,l,rfl,hi1,hi2,hnu,hln,hso,hmu⟩:=hrel
  by_cases hib:i < b
  ·have dib:decide ((i:Int) < (b:Int))=true:=by simp; omega
   have H1:=Lib.hid (show ∃ l:List Int,Nums wr g l∧l.length=n∧Go.Sort.insOuter ltI a b (i+1) (Go.Sort.insInner ltI a i l.toArray)=D∧Mut (fun k=>k=g) w wr from ⟨l,hnu,hln,by rw [← ins_out _ _ _ _ hib]; exact hso,hmu⟩)
   clear hnu hln hso hmu
   clear l
   go_wp2_with fail
   go_loopw [7] (fun s wr=>∃ (j:Nat) (l:List Int),s=.int .i64 j∧a≤j∧j≤i∧Nums wr g l∧l.length=n∧Go.Sort.insOuter ltI a b (i+1) (Go.Sort.insInner ltI a j l.toArray)=D∧Mut (fun k=>k=g) w wr) (fun s _=>(intOf s).toNat)
   case atStart =>
    obtain ⟨l,q1,q2,q3,q4⟩:=H1.out
    exact ⟨i,l,rfl,by have:=HA1.out; omega,Nat.le_refl _,q1,q2,q3,q4⟩
   case round =>
    clear H1 dib
    obtain ⟨j,l,rfl,hj1,hj2,hnu,hln,hso,hmu⟩:=hrel
    rename World=>wl
    have NU:=Lib.hid hnu
    have MU:=Lib.hid hmu
    have SO:=Lib.hid hso
    clear hnu hmu hso
    have hup:IntKind.i64.wrap ((i:Int)+1)=((i+1:Nat):Int):=by rw [IntKind.wrap_i64]; omega
    by_cases haj:a < j
    ·have daj:decide ((j:Int) > (a:Int))=true:=by simp; omega
     have daj2:decide ((a:Int) < (j:Int))=true:=by simp; omega
     obtain ⟨q,hq⟩:∃ q,j - 1=q:=⟨_,rfl⟩
     have HQ:=Lib.hid (show j=q+1 by omega)
     have hqj:q < j:=by omega
     have hdn:IntKind.i64.wrap ((j:Int) - 1)=(q:Int):=by rw [IntKind.wrap_i64]; omega
     obtain ⟨x,hvp⟩:∃ x,at0 l j=x:=⟨_,rfl⟩
     obtain ⟨y,hvq⟩:∃ y,at0 l q=y:=⟨_,rfl⟩
     go_wp2_with fail
     refine beginL (S:=fun W'=>Ext wl W') (by kernel_rfl) ?_
     intro wd hqx
     have hq0:Ext wl wd:=hqx
     refine tLp 0 ((.int .i64 (j:Int))) rfl hq0 ?_
     simp only [ps]
     refine tLp 1 ((.int .i64 (a:Int))) rfl hq0 ?_
     simp only [ps]
     refine tL 2 ((.bool true)) rfl (Or.inl ⟨rfl,fun W' _=>by go_simp⟩) hq0 ?_
     simp only [ps]
     refine tLp 3 ((.bool true)) rfl hq0 ?_
     simp only [ps]
     refine tLp 4 ((.slice (some ⟨g,0,none⟩) n cap)) rfl hq0 ?_
     simp only [ps]
     refine tLp 5 ((.int .i64 (j:Int))) rfl hq0 ?_
     simp only [ps]
     refine tL 6 ((.pointer (some ⟨g,j,none⟩))) rfl (Or.inl ⟨rfl,fun W' _=>by go_simp <;> (intro h; omega)⟩) hq0 ?_
     simp only [ps]
     refine tL 7 (_) rfl (yieldsIf_cell rfl 3 _ rfl ⟨g,j,none⟩ rfl (.int .i64 x) _ (fun W' hW'=>(show W'.cell? ⟨g,j,none⟩=_ from (NU.out.ext hW').cell (by omega)).trans (by rw [hvp])) Try.underlying3 rfl) hq0 ?_
     simp only [ps]
     refine tLp 8 ((.slice (some ⟨g,0,none⟩) n cap)) rfl hq0 ?_
     simp only [ps]
     refine tLp 9 ((.int .i64 (j:Int))) rfl hq0 ?_
     simp only [ps]
     refine tL 10 ((.int .i64 (q:Int))) rfl (Or.inl ⟨rfl,fun W' _=>by go_simp <;> (rw [IntKind.wrap_i64]; omega)⟩) hq0 ?_
     simp only [ps]
     refine tL 11 ((.pointer (some ⟨g,q,none⟩))) rfl (Or.inl ⟨rfl,fun W' _=>by go_simp <;> (intro h; omega)⟩) hq0 ?_
     simp only [ps]
     refine tL 12 (_) rfl (yieldsIf_cell rfl 3 _ rfl ⟨g,q,none⟩ rfl (.int .i64 y) _ (fun W' hW'=>(show W'.cell? ⟨g,q,none⟩=_ from (NU.out.ext hW').cell (by omega)).trans (by rw [hvq])) Try.underlying3 rfl) hq0 ?_
     simp only [ps]
     refine runG (i:=13) rfl (by rfl) (by kernel_rfl) (fun K hK=>?_)
     go_simp
     refine (less_ext x y _).mono ?_
     rintro e wc1 ⟨rfl,hx⟩
     have hq1:=hq0.trans hx
     refine hK.out _ _ hq1 (fun hHeld=>?_)
     try simp only [ps]
     clear hK K hHeld
     refine tLp 14 ((.bool (decide (x < y)))) rfl hq1 ?_
     simp only [ps]
     refine wpAnyH_done (by kernel_rfl) ?_ _
     have NU2:=Lib.hid (NU.out.ext hq1)
     have MU2:=Lib.hid (MU.out.trans (hq1.mut (fun k=>k=g)))
     clear hq0 hqx hq1
     generalize hwn0:wc1=w5 at *
     have HL:=Lib.hid (show ltI l.toArray[j]! l.toArray[q]! = decide (x < y) from by
      rw [arr_at l (by omega),arr_at l (by omega),hvp,hvq]
      rfl)
     clear hq
     obtain ⟨dx,hdx⟩:∃ dx,decide (x < y)=dx:=⟨_,rfl⟩
     rw [hdx] at HL ⊢
     clear hdx
     cases dx with
     | false =>
      have SO2:=Lib.hid (show Go.Sort.insOuter ltI a b (i+1) l.toArray=D from by
       rw [← SO.out,ins_stop a j]
       rintro ⟨-,h2⟩
       have h3:=HL.out
       rw [show j - 1=q from by have:=HQ.out; omega,h3] at h2
       cases h2)
      clear SO
      go_wp2_with fail
      go_roundw
      case rel=>exact ⟨i+1,l,rfl,by omega,by omega,NU2.out,hln,SO2.out,MU2.out⟩
      case measure=>simp [intOf] <;> omega
     | true =>
      have SO2:=Lib.hid (show Go.Sort.insOuter ltI a b (i+1) (Go.Sort.insInner ltI a q (swl l j q).toArray)=D from by
       have h0:=SO.out
       have h3:=HL.out
       rw [swl_arr l (by omega) (by omega)]
       obtain rfl:=HQ.out
       rw [ins_go a q _ haj h3] at h0
       exact h0)
      clear SO
      go_wp2_with fail
      refine beginZ (S:=fun W'=>Ext w5 W') 15 (by kernel_rfl) ?_
      intro wd hqx
      have hq0:Ext w5 wd:=hqx
      refine takeY (i:=0) (z:=15) (v:=(.slice (some ⟨g,0,none⟩) n cap)) rfl (by kernel_rfl) (by kernel_rfl) (by kernel_rfl) (by kernel_rfl) (fun _ _ _ h=>h) (Or.inl ⟨rfl,fun _ _=>rfl⟩) hq0 ?_
      simp only [ps]
      refine takeY (i:=1) (z:=15) (v:=(.int .i64 (j:Int))) rfl (by kernel_rfl) (by kernel_rfl) (by kernel_rfl) (by kernel_rfl) (fun _ _ _ h=>h) (Or.inl ⟨rfl,fun _ _=>rfl⟩) hq0 ?_
      simp only [ps]
      refine takeY (i:=2) (z:=15) (v:=(.slice (some ⟨g,0,none⟩) n cap)) rfl (by kernel_rfl) (by kernel_rfl) (by kernel_rfl) (by kernel_rfl) (fun _ _ _ h=>h) (Or.inl ⟨rfl,fun _ _=>rfl⟩) hq0 ?_
      simp only [ps]
      refine takeY (i:=3) (z:=15) (v:=(.int .i64 (j:Int))) rfl (by kernel_rfl) (by kernel_rfl) (by kernel_rfl) (by kernel_rfl) (fun _ _ _ h=>h) (Or.inl ⟨rfl,fun _ _=>rfl⟩) hq0 ?_
      simp only [ps]
      refine takeY (i:=4) (z:=15) (v:=(.int .i64 (q:Int))) rfl (by kernel_rfl) (by kernel_rfl) (by kernel_rfl) (by kernel_rfl) (fun _ _ _ h=>h) (Or.inl ⟨rfl,fun W' _=>by go_simp <;> (rw [IntKind.wrap_i64]; omega)⟩) hq0 ?_
      simp only [ps]
      refine takeY (i:=5) (z:=15) (v:=(.slice (some ⟨g,0,none⟩) n cap)) rfl (by kernel_rfl) (by kernel_rfl) (by kernel_rfl) (by kernel_rfl) (fun _ _ _ h=>h) (Or.inl ⟨rfl,fun _ _=>rfl⟩) hq0 ?_
      simp only [ps]
      refine takeY (i:=6) (z:=15) (v:=(.int .i64 (j:Int))) rfl (by kernel_rfl) (by kernel_rfl) (by kernel_rfl) (by kernel_rfl) (fun _ _ _ h=>h) (Or.inl ⟨rfl,fun _ _=>rfl⟩) hq0 ?_
      simp only [ps]
      refine takeY (i:=7) (z:=15) (v:=(.int .i64 (q:Int))) rfl (by kernel_rfl) (by kernel_rfl) (by kernel_rfl) (by kernel_rfl) (fun _ _ _ h=>h) (Or.inl ⟨rfl,fun W' _=>by go_simp <;> (rw [IntKind.wrap_i64]; omega)⟩) hq0 ?_
      simp only [ps]
      refine takeY (i:=8) (z:=15) (v:=(.pointer (some ⟨g,q,none⟩))) rfl (by kernel_rfl) (by kernel_rfl) (by kernel_rfl) (by kernel_rfl) (fun _ _ _ h=>h) (Or.inl ⟨rfl,fun W' _=>by go_simp <;> (intro h; omega)⟩) hq0 ?_
      simp only [ps]
      refine takeZ (i:=9) (z:=15) (v:=_) rfl rfl (by kernel_rfl) (by kernel_rfl) (by kernel_rfl) (by kernel_rfl) (by kernel_rfl) (by kernel_rfl) (fun _ _ _ h=>h) (yieldsIf_cell rfl 3 _ rfl ⟨g,q,none⟩ rfl (.int .i64 y) _ (fun W' hW'=>(show W'.cell? ⟨g,q,none⟩=_ from (NU2.out.ext hW').cell (by omega)).trans (by rw [hvq])) Try.underlying3 rfl) hq0 ?_
      simp only [ps]
      refine takeY (i:=10) (z:=15) (v:=(.slice (some ⟨g,0,none⟩) n cap)) rfl (by kernel_rfl) (by kernel_rfl) (by kernel_rfl) (by kernel_rfl) (fun _ _ _ h=>h) (Or.inl ⟨rfl,fun _ _=>rfl⟩) hq0 ?_
      simp only [ps]
      refine takeY (i:=11) (z:=15) (v:=(.int .i64 (j:Int))) rfl (by kernel_rfl) (by kernel_rfl) (by kernel_rfl) (by kernel_rfl) (fun _ _ _ h=>h) (Or.inl ⟨rfl,fun _ _=>rfl⟩) hq0 ?_
      simp only [ps]
      refine takeY (i:=12) (z:=15) (v:=(.pointer (some ⟨g,j,none⟩))) rfl (by kernel_rfl) (by kernel_rfl) (by kernel_rfl) (by kernel_rfl) (fun _ _ _ h=>h) (Or.inl ⟨rfl,fun W' _=>by go_simp <;> (intro h; omega)⟩) hq0 ?_
      simp only [ps]
      refine takeZ (i:=13) (z:=15) (v:=_) rfl rfl (by kernel_rfl) (by kernel_rfl) (by kernel_rfl) (by kernel_rfl) (by kernel_rfl) (by kernel_rfl) (fun _ _ _ h=>h) (yieldsIf_cell rfl 3 _ rfl ⟨g,j,none⟩ rfl (.int .i64 x) _ (fun W' hW'=>(show W'.cell? ⟨g,j,none⟩=_ from (NU2.out.ext hW').cell (by omega)).trans (by rw [hvp])) Try.underlying3 rfl) hq0 ?_
      simp only [ps]
      refine takeY (i:=14) (z:=15) (v:=(.pointer (some ⟨g,j,none⟩))) rfl (by kernel_rfl) (by kernel_rfl) (by kernel_rfl) (by kernel_rfl) (fun _ _ _ h=>h) (Or.inl ⟨rfl,fun W' _=>by go_simp <;> (intro h; omega)⟩) hq0 ?_
      simp only [ps]
      refine runZl (z:=15) rfl rfl (by kernel_rfl) (fun K hK=>?_)
      have hce:=(NU2.out.ext hq0)
      have hc1:wd.cell? ⟨g,j,none⟩=some (.int .i64 (at0 l (j))):=hce.cell (by omega)
      have hf1:=hce.froz (j)
      go_simp
      refine hK.out _ _ ?_
      try simp only [ps]
      clear hK K hc1 hf1
      have hce2:=hce.set (p:=j) (by omega) (at0 l (q))
      rw [hvq] at hce2
      have hq9:=(hq0.mut (fun k=>k=g)).setCell (p:=⟨g,j,none⟩) (.inl rfl) (.int .i64 y)
      refine tL 16 ((.pointer (some ⟨g,q,none⟩))) rfl (Or.inl ⟨rfl,fun W' _=>by go_simp <;> (intro h; omega)⟩) trivial ?_
      simp only [ps]
      refine runL (i:=17) rfl rfl (by kernel_rfl) (fun K hK=>?_)
      have hc2:(wd.setCell ⟨g,j,none⟩ (.int .i64 y)).cell? ⟨g,q,none⟩=some (.int .i64 (at0 (l.set (j) y) (q))):=hce2.cell (by simp; omega)
      have hf2:=hce2.froz (q)
      go_simp
      refine hK.out _ _ trivial (fun _=>?_)
      try simp only [ps]
      clear hK K hc2 hf2
      refine wpAnyH_done (by kernel_rfl) ?_ _
      have hce3:=hce2.set (p:=q) (by simp; omega) (at0 l (j))
      rw [hvp] at hce3
      have NU3:=Lib.hid (show Nums _ g (swl l (j) (q)) from by unfold swl; rw [hvp,hvq]; exact hce3)
      have MU3:=Lib.hid (hq9.setCell (p:=⟨g,q,none⟩) (.inl rfl) (.int .i64 x))
      clear hce hce2 hce3 hq9 hq0 hqx
      generalize (wd.setCell ⟨g,j,none⟩ (.int .i64 y)).setCell ⟨g,q,none⟩ (.int .i64 x)=wm at *
      go_wp2_with fail
      go_roundw
      case rel=>exact ⟨q,swl l j q,rfl,by have:=HQ.out; omega,by omega,NU3.out,by rw [swl_len]; exact hln,SO2.out,MU2.out.trans MU3.out⟩
      case measure=>simp [intOf] <;> omega
    ·have daj:decide ((j:Int) > (a:Int))=false:=by simp; omega
     have daj2:decide ((a:Int) < (j:Int))=false:=by simp; omega
     have SO2:=Lib.hid (show Go.Sort.insOuter ltI a b (i+1) l.toArray=D from by
      rw [← SO.out,ins_stop a j]
      rintro ⟨h2,-⟩
      exact haj h2)
     clear SO
     go_wp2_with fail
     refine beginL (S:=fun W'=>Ext wl W') (by kernel_rfl) ?_
     intro wd hqx
     have hq0:Ext wl wd:=hqx
     refine tLp 0 ((.int .i64 (j:Int))) rfl hq0 ?_
     simp only [ps]
     refine tLp 1 ((.int .i64 (a:Int))) rfl hq0 ?_
     simp only [ps]
     refine tL 2 ((.bool false)) rfl (Or.inl ⟨rfl,fun W' _=>by go_simp⟩) hq0 ?_
     simp only [ps]
     refine tLp 3 ((.bool false)) rfl hq0 ?_
     simp only [ps]
     refine tL 4 (undef) rfl (Or.inr ⟨rfl,rfl⟩) hq0 ?_
     simp only [ps]
     refine tL 5 (undef) rfl (Or.inr ⟨rfl,rfl⟩) hq0 ?_
     simp only [ps]
     refine tL 6 (undef) rfl (Or.inr ⟨rfl,rfl⟩) hq0 ?_
     simp only [ps]
     refine tL 7 (undef) rfl (Or.inr ⟨rfl,rfl⟩) hq0 ?_
     simp only [ps]
     refine tL 8 (undef) rfl (Or.inr ⟨rfl,rfl⟩) hq0 ?_
     simp only [ps]
     refine tL 9 (undef) rfl (Or.inr ⟨rfl,rfl⟩) hq0 ?_
     simp only [ps]
     refine tL 10 (undef) rfl (Or.inr ⟨rfl,rfl⟩) hq0 ?_
     simp only [ps]
     refine tL 11 (undef) rfl (Or.inr ⟨rfl,rfl⟩) hq0 ?_
     simp only [ps]
     refine tL 12 (undef) rfl (Or.inr ⟨rfl,rfl⟩) hq0 ?_
     simp only [ps]
     refine tL 13 (undef) rfl (Or.inr ⟨rfl,rfl⟩) hq0 ?_
     simp only [ps]
     refine tLp 14 ((.bool false)) rfl hq0 ?_
     simp only [ps]
     refine wpAnyH_done (by kernel_rfl) ?_ _
     have NU2:=Lib.hid (NU.out.ext hq0)
     have MU2:=Lib.hid (MU.out.trans (hq0.mut (fun k=>k=g)))
     clear hq0 hqx
     generalize hwn0:wd=w5 at *
     go_wp2_with fail
     go_roundw
     case rel=>exact ⟨i+1,l,rfl,by omega,by omega,NU2.out,hln,SO2.out,MU2.out⟩
     case measure=>simp [intOf] <;> omega
  ·have dib:decide ((i:Int) < (b:Int))=false:=by simp; omega
   have HD:=Lib.hid (show l.toArray=D from by rw [← hso,ins_end _ _ _ _ hib])
   have NU:=Lib.hid hnu
   have MU:=Lib.hid hmu
   clear hnu hso hmu
   go_wp2_with fail
   go_end0
   exact ⟨rfl,l,NU.out,hln,HD.out,MU.out⟩
end Go.Proofs.Ytamnmjckhicapaa
namespace Go.Proofs.Ytamnmjckhicapaa
open Go.RowKit Go.BigFrame Go.WideShapes Go.ChangeShapes Go.Deep
set_option linter.unusedVariables false
set_option linter.unusedSimpArgs false
set_option maxRecDepth 100000
set_option maxRecDepth 100000
theorem sup_go (p:Int→Bool) (d:Array Int) (j i:Nat) (h:(decide (i≤j) && p d[i]!)=true):Go.Sort.scanUp p d j i=Go.Sort.scanUp p d j (i+1):=by
 rw [Go.Sort.scanUp,if_pos h]
theorem sup_stop (p:Int→Bool) (d:Array Int) (j i:Nat) (h:(decide (i≤j) && p d[i]!)=false):Go.Sort.scanUp p d j i=i:=by
 rw [Go.Sort.scanUp,if_neg (by rw [h]; decide)]
theorem sdn_go (p:Int→Bool) (d:Array Int) (i j:Nat) (h:(decide (i≤j) && p d[j]!)=true):Go.Sort.scanDown p d i j=Go.Sort.scanDown p d i (j - 1):=by
 cases j with
 | zero=>rfl
 | succ j=>rw [Go.Sort.scanDown,if_pos h,Nat.add_sub_cancel]
theorem sdn_stop (p:Int→Bool) (d:Array Int) (i j:Nat) (h:(decide (i≤j) && p d[j]!)=false):Go.Sort.scanDown p d i j=j:=by
 cases j with
 | zero=>rfl
 | succ j=>rw [Go.Sort.scanDown,if_neg (by rw [h]; decide)]
def PartP (w:World) (g n:Nat) (r:Nat × Bool × Array Int) (e:Ending) (w':World):Prop:=∃ (mid:Nat) (ap:Bool) (d':Array Int),e=.returned (.tuple #[.int .i64 mid,.bool ap])∧r=(mid,ap,d')∧SoP w g n d' w'
def ParteP (w:World) (g n:Nat) (r:Nat × Array Int) (e:Ending) (w':World):Prop:=∃ (mid:Nat) (d':Array Int),e=.returned (.int .i64 mid)∧r=(mid,d')∧SoP w g n d' w'
theorem part_split (d0:Array Int) (a b pv:Nat) (d:Array Int) (pru prd:Int→Bool) (I J:Nat) (hd:Go.Sort.swp d0 a pv=d) (hu:(fun x=>ltI x d[a]!)=pru) (hn:(fun x=>!ltI x d[a]!)=prd) (hI:Go.Sort.scanUp pru d (b - 1) (a+1)=I) (hJ:Go.Sort.scanDown prd d I (b - 1)=J) :
    Go.Sort.partition ltI d0 a b pv=if I > J then (J,true,Go.Sort.swp d J a) else ((Go.Sort.partLoop ltI a (I+1) (J - 1) (Go.Sort.swp d I J)).1,false,Go.Sort.swp (Go.Sort.partLoop ltI a (I+1) (J - 1) (Go.Sort.swp d I J)).2 (Go.Sort.partLoop ltI a (I+1) (J - 1) (Go.Sort.swp d I J)).1 a):=by
 subst hd; subst hu; subst hn; subst hI; subst hJ
 rfl
theorem loop_split (a i j:Nat) (d:Array Int) (pru prd:Int→Bool) (I J:Nat) (hu:(fun x=>ltI x d[a]!)=pru) (hn:(fun x=>!ltI x d[a]!)=prd) (hI:Go.Sort.scanUp pru d j i=I) (hJ:Go.Sort.scanDown prd d I j=J) :
    Go.Sort.partLoop ltI a i j d=if I > J then (J,d) else Go.Sort.partLoop ltI a (I+1) (J - 1) (Go.Sort.swp d I J):=by
 subst hu; subst hn; subst hI; subst hJ
 exact Go.Sort.partLoop_eq ltI a i j d
theorem eq_split (a i j:Nat) (d:Array Int) (pru prd:Int→Bool) (I J:Nat) (hu:(fun x=>!ltI d[a]! x)=pru) (hn:(fun x=>ltI d[a]! x)=prd) (hI:Go.Sort.scanUp pru d j i=I) (hJ:Go.Sort.scanDown prd d I j=J) :
    Go.Sort.partEqLoop ltI a i j d=if I > J then (I,d) else Go.Sort.partEqLoop ltI a (I+1) (J - 1) (Go.Sort.swp d I J):=by
 subst hu; subst hn; subst hI; subst hJ
 exact Go.Sort.partEqLoop_eq ltI a i j d
end Go.Proofs.Ytamnmjckhicapaa
