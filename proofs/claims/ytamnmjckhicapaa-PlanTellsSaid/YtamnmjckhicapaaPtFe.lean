/- Part 5 of what PlanVersions stands on. No statement is proved here. -/
import Derived.Sort.AssemblyPlain
import Derived.Test.YtamnmjckhicapaaPtFd
namespace Go.Proofs.Ytamnmjckhicapaa
open Go.RowKit Go.BigFrame Go.WideShapes Go.ChangeShapes Go.Deep
set_option linter.unusedVariables false
set_option linter.unusedSimpArgs false
set_option maxRecDepth 100000
theorem nan_any (x:Int) (w:World):Calls Try.prog 102 #[.int .i64 x] w fun e w'=>e=.returned (.bool false)∧w'=w:=by
 go_enter Try.func102,Try.ntmps102
 go_wp2
 go_ret
 exact ⟨by simp,rfl⟩
theorem less_any (x y:Int) (w:World):Calls Try.prog 90 #[.int .i64 x,.int .i64 y] w fun e w'=>e=.returned (.bool (decide (x < y)))∧w'=w:=by
 go_enter Try.func90,Try.ntmps90
 go_wp2_with fail
 refine (nan_any x _).mono ?_
 rintro e w1 ⟨rfl,rfl⟩
 go_wp2_with fail
 go_ret
 exact ⟨by simp,rfl⟩
theorem less_ext (x y:Int) (w:World):Calls Try.prog 90 #[.int .i64 x,.int .i64 y] w fun e w'=>e=.returned (.bool (decide (x < y)))∧Ext w w':=(less_any x y w).mono fun e w' ⟨h,h2⟩=>⟨h,h2 ▸ Ext.refl w⟩
def Nums (w:World) (g:Nat) (l:List Int):Prop:=∃ cur,w.heap[g]?=some (.cells cur 3 (0,0))∧∀ i,i < l.length→cur[i]?=some (.int .i64 (at0 l i))
theorem Nums.cell {w:World} {g:Nat} {l:List Int} (h:Nums w g l) {i:Nat} (hi:i < l.length):w.cell? ⟨g,i,none⟩=some (.int .i64 (at0 l i)):=by
 obtain ⟨cur,h1,h2⟩:=h
 simp [World.cell?,h1,h2 i hi]
theorem Nums.froz {w:World} {g:Nat} {l:List Int} (h:Nums w g l) (i:Nat):w.frozen? ⟨g,i,none⟩=false:=by
 obtain ⟨cur,h1,h2⟩:=h
 simp [World.frozen?,h1]
theorem Nums.lt {w:World} {g:Nat} {l:List Int} (h:Nums w g l):g < w.heap.size:=by
 obtain ⟨cur,h1,h2⟩:=h
 exact (Array.getElem?_eq_some_iff.1 h1).1
theorem Nums.set {w:World} {g:Nat} {l:List Int} (h:Nums w g l) {p:Nat} (hp:p < l.length) (v:Int):Nums (w.setCell ⟨g,p,none⟩ (.int .i64 v)) g (l.set p v):=by
 obtain ⟨cur,h1,h2⟩:=h
 have hg:g < w.heap.size:=(Array.getElem?_eq_some_iff.1 h1).1
 have hg':w.heap[g]=.cells cur 3 (0,0):=(Array.getElem?_eq_some_iff.1 h1).2
 refine ⟨cur.setIfInBounds p (.int .i64 v),?_,fun i hi=>?_⟩
 ·simp [World.setCell,Array.getElem_modify,hg',hg]
 ·have hi':i < l.length:=by simpa using hi
  have hc:=h2 i hi'
  have hil:i < cur.size:=(Array.getElem?_eq_some_iff.1 hc).1
  rw [at_set _ _ _ _ hp]
  by_cases hip:i=p
  ·subst hip
   rw [if_pos rfl]
   simp [Array.getElem?_setIfInBounds,hil]
  ·rw [if_neg hip,Array.getElem?_setIfInBounds,if_neg (fun e=>hip e.symm)]
   exact hc
theorem Nums.ext {w w':World} {g:Nat} {l:List Int} (h:Nums w g l) (hx:Ext w w'):Nums w' g l:=by
 have hl:=h.lt
 obtain ⟨cur,h1,h2⟩:=h
 exact ⟨cur,(hx.block g hl).trans h1,h2⟩
end Go.Proofs.Ytamnmjckhicapaa
namespace Go.Proofs.Ytamnmjckhicapaa
open Go.RowKit Go.BigFrame Go.WideShapes Go.ChangeShapes Go.Deep
set_option linter.unusedVariables false
set_option linter.unusedSimpArgs false
set_option maxRecDepth 100000
set_option maxRecDepth 100000 in
set_option maxHeartbeats 4000000 in
theorem len64_any (n:Nat) (hn:n≤12) (w:World):Calls Try.prog 94 #[.int .u64 n] w fun e w'=>(∃ k:Int,e=.returned (.int .i64 k))∧w'=w:=by
 have hc:n=0∨n=1∨n=2∨n=3∨n=4∨n=5∨n=6∨n=7∨n=8∨n=9∨n=10∨n=11∨n=12:=by omega
 clear hn
 rcases hc with rfl | rfl | rfl | rfl | rfl | rfl | rfl | rfl | rfl | rfl | rfl | rfl | rfl <;>
 ·go_enter Try.func94,Try.ntmps94
  go_wp2
  go_ret
  exact ⟨⟨_,rfl⟩,rfl⟩
theorem len_any (n:Nat) (hn:n≤12) (w:World):Calls Try.prog 73 #[.int .u64 n] w fun e w'=>(∃ k:Int,e=.returned (.int .i64 k))∧w'=w:=by
 go_enter Try.func73,Try.ntmps73
 go_wp2_with fail
 refine (len64_any n hn _).mono ?_
 rintro e w1 ⟨⟨k,rfl⟩,rfl⟩
 go_wp2_with fail
 go_ret
 exact ⟨⟨k,rfl⟩,rfl⟩
set_option maxRecDepth 100000 in
set_option maxHeartbeats 4000000 in
theorem insort_nil (w:World) (p:Option Addr) (cap:Nat):Calls Try.prog 84 #[.slice p 0 cap,.int .i64 0,.int .i64 0] w fun e w'=>e=.returned (.tuple #[])∧w'=w:=by
 go_enter Try.func84,Try.ntmps84
 go_wp2_with fail
 go_loopw [6] (fun s wr=>s=.int .i64 1∧wr=w) (fun _ _=>0)
 case atStart=>exact ⟨rfl,rfl⟩
 case round =>
  obtain ⟨rfl,rfl⟩:=hrel
  go_wp2_with fail
  go_end0
  exact ⟨rfl,rfl⟩
theorem pdq_nil (w:World) (p:Option Addr) (cap:Nat) (k:Int) :
    Calls Try.prog 72 #[.slice p 0 cap,.int .i64 0,.int .i64 0,.int .i64 k] w fun e w'=>e=.returned (.tuple #[])∧w'=w:=by
 go_enter Try.func72,Try.ntmps72
 go_wp2_with fail
 go_loopw [1,2] (fun a b wr=>a=.int .i64 0∧b=.int .i64 0∧wr=w) (fun _ _ _=>0)
 case atStart=>exact ⟨rfl,rfl,rfl⟩
 case round =>
  obtain ⟨rfl,rfl,rfl⟩:=hrel
  go_wp2_with fail
  refine (insort_nil _ p cap).mono ?_
  rintro e w1 ⟨rfl,rfl⟩
  go_wp2_with fail
  refine bodyPost_ret (results_none rfl _ _ _) rfl ?_
  exact ⟨rfl,rfl⟩
theorem sort_nil (w:World) (p:Option Addr) (cap:Nat):Calls Try.prog 52 #[.slice p 0 cap] w fun e w'=>e=.returned (.tuple #[])∧w'=w:=by
 go_enter Try.func52,Try.ntmps52
 go_wp2_with fail
 refine (len_any 0 (by decide) _).mono ?_
 rintro e w1 ⟨⟨k,rfl⟩,rfl⟩
 go_wp2_with fail
 refine (pdq_nil _ p cap k).mono ?_
 rintro e w1 ⟨rfl,rfl⟩
 go_wp2_with fail
 go_end0
 exact ⟨rfl,rfl⟩
end Go.Proofs.Ytamnmjckhicapaa
namespace Go.Proofs.Ytamnmjckhicapaa
open Go.RowKit Go.BigFrame Go.WideShapes Go.ChangeShapes Go.Deep
set_option linter.unusedVariables false
set_option linter.unusedSimpArgs false
set_option maxRecDepth 100000
set_option maxRecDepth 100000
theorem cell_row {w:World} {g:Nat} {cs:Array Value} {e:TypeId} {fr:Nat × Nat} (h:w.heap[g]?=some (.cells cs e fr)) (i:Nat):w.cell? ⟨g,i,none⟩=cs[i]?:=by simp [World.cell?,h]
abbrev ltI:Int→Int→Bool:=Go.Sort.ltInt
theorem arr_at (l:List Int) {i:Nat} (h:i < l.length):l.toArray[i]! = at0 l i:=by
 simp [at0,List.getD,h]
def O2P (w:World) (q:Nat) (r:Nat × Nat × Nat) (e:Ending) (w':World):Prop:=∃ x y s',e=.returned (.tuple #[.int .i64 (x:Nat),.int .i64 (y:Nat)])∧r=(x,y,s')∧w'.heap[q]?=some (.cells #[.int .i64 ((s':Nat):Int)] 3 (0,0))∧Mut (fun k=>k=q) w w'
def MedP (w:World) (q:Nat) (r:Nat × Nat) (e:Ending) (w':World):Prop:=∃ x s',e=.returned (.int .i64 (x:Nat))∧r=(x,s')∧w'.heap[q]?=some (.cells #[.int .i64 ((s':Nat):Int)] 3 (0,0))∧Mut (fun k=>k=q) w w'
def Cnt (w:World) (q:Nat) (s:Nat):Prop:=w.heap[q]?=some (.cells #[.int .i64 s] 3 (0,0))
set_option maxRecDepth 100000 in
set_option maxHeartbeats 2000000 in
theorem o2_any (w:World) (g n cap q:Nat) (l:List Int) (s a b:Nat) (ha:a < n) (hb:b < n) (hn:n≤1000) (hs:s≤100) (h:Nums w g l) (hl:l.length=n) (hq:Cnt w q s) :
    Calls Try.prog 103 #[(.slice (some ⟨g,0,none⟩) n cap),.int .i64 a,.int .i64 b,.pointer (some ⟨q,0,none⟩)] w (O2P w q (Go.Sort.order2 ltI l.toArray a b s)):=by
 have NU:=Lib.hid h
 have HQ:=Lib.hid hq
 obtain ⟨va,hva⟩:∃ v,at0 l a=v:=⟨_,rfl⟩
 obtain ⟨vb,hvb⟩:∃ v,at0 l b=v:=⟨_,rfl⟩
 have HDF:=Lib.hid (show Go.Sort.order2 ltI l.toArray a b s=if decide (vb < va) then (b,a,s+1) else (a,b,s) by
  unfold Go.Sort.order2
  rw [arr_at l (by omega),arr_at l (by omega),hva,hvb]
  rfl)
 have hup:IntKind.i64.wrap ((s:Int)+1)=((s+1:Nat):Int):=by rw [IntKind.wrap_i64]; omega
 clear h hq
 go_enter Try.func103,Try.ntmps103
 go_wp2_with fail
 refine beginL (S:=fun W'=>Ext w W') (by kernel_rfl) ?_
 intro wd hqx
 have hq0:Ext w wd:=hqx
 refine tLp 0 ((.slice (some ⟨g,0,none⟩) n cap)) rfl hq0 ?_
 simp only [ps]
 refine tLp 1 ((.int .i64 (b:Int))) rfl hq0 ?_
 simp only [ps]
 refine tL 2 ((.pointer (some ⟨g,b,none⟩))) rfl (Or.inl ⟨rfl,fun W' _=>by go_simp <;> (intro h; omega)⟩) hq0 ?_
 simp only [ps]
 refine tL 3 (_) rfl (yieldsIf_cell rfl 3 _ rfl ⟨g,b,none⟩ rfl (.int .i64 vb) _ (fun W' hW'=>(show W'.cell? ⟨g,b,none⟩=_ from (NU.out.ext hW').cell (by omega)).trans (by rw [hvb])) Try.underlying3 rfl) hq0 ?_
 simp only [ps]
 refine tLp 4 ((.slice (some ⟨g,0,none⟩) n cap)) rfl hq0 ?_
 simp only [ps]
 refine tLp 5 ((.int .i64 (a:Int))) rfl hq0 ?_
 simp only [ps]
 refine tL 6 ((.pointer (some ⟨g,a,none⟩))) rfl (Or.inl ⟨rfl,fun W' _=>by go_simp <;> (intro h; omega)⟩) hq0 ?_
 simp only [ps]
 refine tL 7 (_) rfl (yieldsIf_cell rfl 3 _ rfl ⟨g,a,none⟩ rfl (.int .i64 va) _ (fun W' hW'=>(show W'.cell? ⟨g,a,none⟩=_ from (NU.out.ext hW').cell (by omega)).trans (by rw [hva])) Try.underlying3 rfl) hq0 ?_
 simp only [ps]
 refine runL (i:=8) rfl rfl (by kernel_rfl) (fun K hK=>?_)
 go_simp
 refine (less_ext vb va _).mono ?_
 rintro e wc1 ⟨rfl,hx⟩
 have hq1:=hq0.trans hx
 refine hK.out _ _ hq1 (fun hHeld=>?_)
 try simp only [ps]
 clear hK K hHeld
 refine wpAnyH_done (by kernel_rfl) ?_ _
 have HX:=Lib.hid hq1
 clear hq0 hqx hq1
 obtain ⟨d,hd⟩:∃ d,decide (vb < va)=d:=⟨_,rfl⟩
 rw [hd] at HDF ⊢
 have hq1:(wc1).heap[q]?=some (.cells #[.int .i64 s] 3 (0,0)):=(HX.out.block q (heap_lt HQ.out)).trans HQ.out
 have cq:(wc1).cell? ⟨q,0,none⟩=some (.int .i64 s):=by rw [cell_row hq1]; rfl
 cases d with
 | false =>
  clear hd
  go_wp2_with fail
  go_ret2
  exact ⟨a,b,s,rfl,HDF.out,hq1,HX.out.mut _⟩
 | true =>
  clear hd
  go_wp2_with (first
   | fail
   | ((with_reducible refine at_store 3 ?_); refine st_at rfl rfl 3 _ _ rfl q 0 _ #[.int .i64 ((s:Int)+1)] #[.int .i64 s] #[.int .i64 ((s:Int)+1)] 3 rfl rfl rfl hq1 (by exact (by decide:0+1≤1)) (by kernel_rfl) rfl rfl ?_
      intro w5 hq5 hm5))
  go_ret2
  exact ⟨b,a,s+1,rfl,HDF.out,hq5,(HX.out.mut _).trans hm5⟩
set_option maxRecDepth 100000 in
set_option maxHeartbeats 2000000 in
theorem med_any (w:World) (g n cap q:Nat) (l:List Int) (s a b c:Nat) (ha:a < n) (hb:b < n) (hc:c < n) (hn:n≤1000) (hs:s≤90) (h:Nums w g l) (hl:l.length=n) (hq:Cnt w q s) (hqg:q ≠ g) :
    Calls Try.prog 101 #[(.slice (some ⟨g,0,none⟩) n cap),.int .i64 a,.int .i64 b,.int .i64 c,.pointer (some ⟨q,0,none⟩)] w (MedP w q (Go.Sort.median ltI l.toArray a b c s)):=by
 have NU:=Lib.hid h
 have HQ:=Lib.hid hq
 have o2:∀ (a b s:Nat) x y s',Go.Sort.order2 ltI l.toArray a b s=(x,y,s')→((x=a∧y=b)∨(x=b∧y=a))∧s'≤s+1:=fun a b s x y s' h=>by
  unfold Go.Sort.order2 at h
  split at h <;> injection h with h1 h2 <;> injection h2 with h2 h3 <;> omega
 have keep:∀ (w1 w2:World),Nums w1 g l→Mut (fun k=>k=q) w1 w2→Nums w2 g l:=fun w1 w2 hn hm=>by
  have hlt:=hn.lt
  obtain ⟨cur,e1,e2⟩:=hn
  exact ⟨cur,(hm.heap hlt (fun hc=>hqg (show g=q from hc).symm)).trans e1,e2⟩
 have KEEP:=Lib.hid keep
 have O2:=Lib.hid o2
 clear h hq o2 keep
 go_enter Try.func101,Try.ntmps101
 go_wp2_with fail
 refine (o2_any w g n cap q l s a b ha hb hn (by omega) NU.out hl HQ.out).mono ?_
 rintro e w1 ⟨x1,y1,s1,rfl,he1,hq1,hm1⟩
 have HE1:=Lib.hid he1
 have hb1:=O2.out _ _ _ _ _ _ he1
 have HQ1:=Lib.hid hq1
 have HM1:=Lib.hid hm1
 have NU1:=Lib.hid (KEEP.out _ _ NU.out hm1)
 clear he1 hq1 hm1
 go_wp2_with fail
 refine (o2_any w1 g n cap q l s1 y1 c (by omega) hc hn (by omega) NU1.out hl HQ1.out).mono ?_
 rintro e w2 ⟨x2,y2,s2,rfl,he2,hq2,hm2⟩
 have HE2:=Lib.hid he2
 have hb2:=O2.out _ _ _ _ _ _ he2
 have HQ2:=Lib.hid hq2
 have HM2:=Lib.hid (HM1.out.trans hm2)
 have NU2:=Lib.hid (KEEP.out _ _ NU1.out hm2)
 clear he2 hq2 hm2
 go_wp2_with fail
 refine (o2_any w2 g n cap q l s2 x1 x2 (by omega) (by omega) hn (by omega) NU2.out hl HQ2.out).mono ?_
 rintro e w3 ⟨x3,y3,s3,rfl,he3,hq3,hm3⟩
 have HE3:=Lib.hid he3
 have HQ3:=Lib.hid hq3
 have HM3:=Lib.hid (HM2.out.trans hm3)
 clear he3 hq3 hm3
 go_wp2_with fail
 go_ret
 refine ⟨y3,s3,rfl,?_,HQ3.out,HM3.out⟩
 unfold Go.Sort.median
 dsimp only
 rw [HE1.out]
 dsimp only
 rw [HE2.out]
 dsimp only
 rw [HE3.out]
end Go.Proofs.Ytamnmjckhicapaa
namespace Go.Proofs.Ytamnmjckhicapaa
open Go.RowKit Go.BigFrame Go.WideShapes Go.ChangeShapes Go.Deep
set_option linter.unusedVariables false
set_option linter.unusedSimpArgs false
set_option maxRecDepth 100000
set_option maxRecDepth 100000
def swl (l:List Int) (p q:Nat):List Int:=(l.set p (at0 l q)).set q (at0 l p)
theorem swl_len (l:List Int) (p q:Nat):(swl l p q).length=l.length:=by simp [swl]
theorem swl_arr (l:List Int) {p q:Nat} (hp:p < l.length) (hq:q < l.length):(swl l p q).toArray=Go.Sort.swp l.toArray p q:=by
 unfold swl Go.Sort.swp
 rw [arr_at l hp,arr_at l hq]
 simp
def SoP (w:World) (g n:Nat) (d:Array Int) (w':World):Prop:=∃ l,Nums w' g l∧l.length=n∧l.toArray=d∧Mut (fun k=>k=g) w w'
set_option maxRecDepth 100000 in
set_option maxHeartbeats 2000000 in
theorem rev_any (w:World) (g n cap:Nat) (l0:List Int) (a b:Nat) (hab:a < b) (hb:b≤n) (hn:n≤500) (h:Nums w g l0) (hl:l0.length=n) :
    Calls Try.prog 88 #[(.slice (some ⟨g,0,none⟩) n cap),.int .i64 a,.int .i64 b] w fun e w'=>e=.returned (.tuple #[])∧SoP w g n (Go.Sort.reverseRange l0.toArray a b) w':=by
 have H0:=Lib.hid (show ∃ l:List Int,Nums w g l∧l.length=n∧Go.Sort.reverseLoop a (b - 1) l.toArray=Go.Sort.reverseRange l0.toArray a b∧Mut (fun k=>k=g) w w from ⟨l0,h,hl,rfl,Mut.refl _ w⟩)
 have hb1:IntKind.i64.wrap ((b:Int) - 1)=((b - 1:Nat):Int):=by rw [IntKind.wrap_i64]; omega
 generalize Go.Sort.reverseRange l0.toArray a b=D at *
 clear h hl
 go_enter Try.func88,Try.ntmps88
 obtain ⟨b1,hbb⟩:∃ b1,b - 1=b1:=⟨_,rfl⟩
 rw [hbb] at hb1 H0
 have hbn:b1 < n:=by omega
 have han:a < n:=by omega
 clear hbb hab hb
 go_wp2_with fail
 go_loopw [6,7] (fun s t wr=>∃ i j:Nat,i≤n∧j < n∧s=.int .i64 i∧t=.int .i64 j∧∃ l:List Int,Nums wr g l∧l.length=n∧Go.Sort.reverseLoop i j l.toArray=D∧Mut (fun k=>k=g) w wr) (fun s _ _=>n+1 - (intOf s).toNat)
 case atStart=>exact ⟨a,b1,by omega,hbn,rfl,rfl,H0.out⟩
 case round =>
  clear H0 hb1
  obtain ⟨i,j,hi,hj,rfl,rfl,l,hnu,hln,hrv,hmu⟩:=hrel
  rename World=>wl
  have NU:=Lib.hid hnu
  have MU:=Lib.hid hmu
  have RV:=Lib.hid hrv
  clear hnu hmu hrv
  by_cases hij:i < j
  ·have dij:decide ((i:Int) < (j:Int))=true:=by simp; omega
   obtain ⟨x,hvp⟩:∃ x,at0 l i=x:=⟨_,rfl⟩
   obtain ⟨y,hvq⟩:∃ y,at0 l j=y:=⟨_,rfl⟩
   go_wp2_with fail
   refine beginZ (S:=fun W'=>Ext wl W') 13 (by kernel_rfl) ?_
   intro wd hqx
   have hq0:Ext wl wd:=hqx
   refine takeY (i:=0) (z:=13) (v:=(.slice (some ⟨g,0,none⟩) n cap)) rfl (by kernel_rfl) (by kernel_rfl) (by kernel_rfl) (by kernel_rfl) (fun _ _ _ h=>h) (Or.inl ⟨rfl,fun _ _=>rfl⟩) hq0 ?_
   simp only [ps]
   refine takeY (i:=1) (z:=13) (v:=(.int .i64 (i:Int))) rfl (by kernel_rfl) (by kernel_rfl) (by kernel_rfl) (by kernel_rfl) (fun _ _ _ h=>h) (Or.inl ⟨rfl,fun _ _=>rfl⟩) hq0 ?_
   simp only [ps]
   refine takeY (i:=2) (z:=13) (v:=(.slice (some ⟨g,0,none⟩) n cap)) rfl (by kernel_rfl) (by kernel_rfl) (by kernel_rfl) (by kernel_rfl) (fun _ _ _ h=>h) (Or.inl ⟨rfl,fun _ _=>rfl⟩) hq0 ?_
   simp only [ps]
   refine takeY (i:=3) (z:=13) (v:=(.int .i64 (j:Int))) rfl (by kernel_rfl) (by kernel_rfl) (by kernel_rfl) (by kernel_rfl) (fun _ _ _ h=>h) (Or.inl ⟨rfl,fun _ _=>rfl⟩) hq0 ?_
   simp only [ps]
   refine takeY (i:=4) (z:=13) (v:=(.slice (some ⟨g,0,none⟩) n cap)) rfl (by kernel_rfl) (by kernel_rfl) (by kernel_rfl) (by kernel_rfl) (fun _ _ _ h=>h) (Or.inl ⟨rfl,fun _ _=>rfl⟩) hq0 ?_
   simp only [ps]
   refine takeY (i:=5) (z:=13) (v:=(.int .i64 (j:Int))) rfl (by kernel_rfl) (by kernel_rfl) (by kernel_rfl) (by kernel_rfl) (fun _ _ _ h=>h) (Or.inl ⟨rfl,fun _ _=>rfl⟩) hq0 ?_
   simp only [ps]
   refine takeY (i:=6) (z:=13) (v:=(.pointer (some ⟨g,j,none⟩))) rfl (by kernel_rfl) (by kernel_rfl) (by kernel_rfl) (by kernel_rfl) (fun _ _ _ h=>h) (Or.inl ⟨rfl,fun W' _=>by go_simp <;> (intro h; omega)⟩) hq0 ?_
   simp only [ps]
   refine takeZ (i:=7) (z:=13) (v:=_) rfl rfl (by kernel_rfl) (by kernel_rfl) (by kernel_rfl) (by kernel_rfl) (by kernel_rfl) (by kernel_rfl) (fun _ _ _ h=>h) (yieldsIf_cell rfl 3 _ rfl ⟨g,j,none⟩ rfl (.int .i64 y) _ (fun W' hW'=>(show W'.cell? ⟨g,j,none⟩=_ from (NU.out.ext hW').cell (by omega)).trans (by rw [hvq])) Try.underlying3 rfl) hq0 ?_
   simp only [ps]
   refine takeY (i:=8) (z:=13) (v:=(.slice (some ⟨g,0,none⟩) n cap)) rfl (by kernel_rfl) (by kernel_rfl) (by kernel_rfl) (by kernel_rfl) (fun _ _ _ h=>h) (Or.inl ⟨rfl,fun _ _=>rfl⟩) hq0 ?_
   simp only [ps]
   refine takeY (i:=9) (z:=13) (v:=(.int .i64 (i:Int))) rfl (by kernel_rfl) (by kernel_rfl) (by kernel_rfl) (by kernel_rfl) (fun _ _ _ h=>h) (Or.inl ⟨rfl,fun _ _=>rfl⟩) hq0 ?_
   simp only [ps]
   refine takeY (i:=10) (z:=13) (v:=(.pointer (some ⟨g,i,none⟩))) rfl (by kernel_rfl) (by kernel_rfl) (by kernel_rfl) (by kernel_rfl) (fun _ _ _ h=>h) (Or.inl ⟨rfl,fun W' _=>by go_simp <;> (intro h; omega)⟩) hq0 ?_
   simp only [ps]
   refine takeZ (i:=11) (z:=13) (v:=_) rfl rfl (by kernel_rfl) (by kernel_rfl) (by kernel_rfl) (by kernel_rfl) (by kernel_rfl) (by kernel_rfl) (fun _ _ _ h=>h) (yieldsIf_cell rfl 3 _ rfl ⟨g,i,none⟩ rfl (.int .i64 x) _ (fun W' hW'=>(show W'.cell? ⟨g,i,none⟩=_ from (NU.out.ext hW').cell (by omega)).trans (by rw [hvp])) Try.underlying3 rfl) hq0 ?_
   simp only [ps]
   refine takeY (i:=12) (z:=13) (v:=(.pointer (some ⟨g,i,none⟩))) rfl (by kernel_rfl) (by kernel_rfl) (by kernel_rfl) (by kernel_rfl) (fun _ _ _ h=>h) (Or.inl ⟨rfl,fun W' _=>by go_simp <;> (intro h; omega)⟩) hq0 ?_
   simp only [ps]
   refine runZl (z:=13) rfl rfl (by kernel_rfl) (fun K hK=>?_)
   have hce:=(NU.out.ext hq0)
   have hc1:wd.cell? ⟨g,i,none⟩=some (.int .i64 (at0 l (i))):=hce.cell (by omega)
   have hf1:=hce.froz (i)
   go_simp
   refine hK.out _ _ ?_
   try simp only [ps]
   clear hK K hc1 hf1
   have hce2:=hce.set (p:=i) (by omega) (at0 l (j))
   rw [hvq] at hce2
   have hq9:=(hq0.mut (fun k=>k=g)).setCell (p:=⟨g,i,none⟩) (.inl rfl) (.int .i64 y)
   refine tL 14 ((.pointer (some ⟨g,j,none⟩))) rfl (Or.inl ⟨rfl,fun W' _=>by go_simp <;> (intro h; omega)⟩) trivial ?_
   simp only [ps]
   refine runL (i:=15) rfl rfl (by kernel_rfl) (fun K hK=>?_)
   have hc2:(wd.setCell ⟨g,i,none⟩ (.int .i64 y)).cell? ⟨g,j,none⟩=some (.int .i64 (at0 (l.set (i) y) (j))):=hce2.cell (by simp; omega)
   have hf2:=hce2.froz (j)
   go_simp
   refine hK.out _ _ trivial (fun _=>?_)
   try simp only [ps]
   clear hK K hc2 hf2
   refine wpAnyH_done (by kernel_rfl) ?_ _
   have hce3:=hce2.set (p:=j) (by simp; omega) (at0 l (i))
   rw [hvp] at hce3
   have NU3:=Lib.hid (show Nums _ g (swl l (i) (j)) from by unfold swl; rw [hvp,hvq]; exact hce3)
   have MU3:=Lib.hid (hq9.setCell (p:=⟨g,j,none⟩) (.inl rfl) (.int .i64 x))
   clear hce hce2 hce3 hq9 hq0 hqx
   generalize (wd.setCell ⟨g,i,none⟩ (.int .i64 y)).setCell ⟨g,j,none⟩ (.int .i64 x)=wm at *
   have hup:IntKind.i64.wrap ((i:Int)+1)=((i+1:Nat):Int):=by rw [IntKind.wrap_i64]; omega
   obtain ⟨j1,hj1⟩:∃ j1,j - 1=j1:=⟨_,rfl⟩
   have hdn:IntKind.i64.wrap ((j:Int) - 1)=(j1:Int):=by rw [IntKind.wrap_i64]; omega
   have HJ:=Lib.hid hj1
   clear hj1
   go_wp2_with fail
   go_roundw
   case rel =>
    refine ⟨i+1,j1,by omega,by have:=HJ.out; omega,by go_num,rfl,swl l i j,NU3.out,by rw [swl_len]; exact hln,?_,MU.out.trans MU3.out⟩
    have:=RV.out
    rw [Go.Sort.reverseLoop,if_pos hij,HJ.out] at this
    rw [swl_arr l (by omega) (by omega)]
    exact this
   case measure=>simp [intOf] <;> omega
  ·have dij:decide ((i:Int) < (j:Int))=false:=by simp; omega
   go_wp2_with fail
   go_end0
   refine ⟨rfl,l,NU.out,hln,?_,MU.out⟩
   have:=RV.out
   rw [Go.Sort.reverseLoop,if_neg hij] at this
   exact this
end Go.Proofs.Ytamnmjckhicapaa
namespace Go.Proofs.Ytamnmjckhicapaa
open Go.RowKit Go.BigFrame Go.WideShapes Go.ChangeShapes Go.Deep
set_option linter.unusedVariables false
set_option linter.unusedSimpArgs false
set_option maxRecDepth 100000
set_option maxRecDepth 100000
theorem sd_stop (hi fi r:Nat) (d:Array Int) (h:hi≤2*r+1):Go.Sort.siftDown ltI hi fi r d=d:=by
 rw [Go.Sort.siftDown,dif_pos h]
theorem sd_a (hi fi r:Nat) (d:Array Int) (h:2*r+2 < hi) (hl:ltI d[fi+(2*r+1)]! d[fi+(2*r+1)+1]! = true):Go.Sort.siftDown ltI hi fi r d=if ltI d[fi+r]! d[fi+(2*r+2)]! then Go.Sort.siftDown ltI hi fi (2*r+2) (Go.Sort.swp d (fi+r) (fi+(2*r+2))) else d:=by
 rw [Go.Sort.siftDown,dif_neg (by omega),if_pos (by rw [hl,decide_eq_true (by omega:2*r+1+1 < hi)]; rfl)]
 cases ltI d[fi+r]! d[fi+(2*r+2)]! with
 | false=>rfl
 | true =>
  rw [if_neg (by decide),dif_pos h]
  rfl
theorem sd_b (hi fi r:Nat) (d:Array Int) (h:¬ hi≤2*r+1) (hl:(decide (2*r+1+1 < hi) && ltI d[fi+(2*r+1)]! d[fi+(2*r+1)+1]!)=false):Go.Sort.siftDown ltI hi fi r d=if ltI d[fi+r]! d[fi+(2*r+1)]! then Go.Sort.siftDown ltI hi fi (2*r+1) (Go.Sort.swp d (fi+r) (fi+(2*r+1))) else d:=by
 rw [Go.Sort.siftDown,dif_neg h,if_neg (by rw [hl]; decide)]
 cases ltI d[fi+r]! d[fi+(2*r+1)]! with
 | false=>rfl
 | true=>rfl
set_option maxRecDepth 100000 in
set_option maxHeartbeats 2000000 in
theorem sift_any (w:World) (g n cap:Nat) (l0:List Int) (lo hi fi:Nat) (hlo:lo≤n) (hfi:fi+hi≤n) (hn:n≤500) (h:Nums w g l0) (hl:l0.length=n) :
    Calls Try.prog 97 #[(.slice (some ⟨g,0,none⟩) n cap),.int .i64 lo,.int .i64 hi,.int .i64 fi] w fun e w'=>e=.returned (.tuple #[])∧SoP w g n (Go.Sort.siftDown ltI hi fi lo l0.toArray) w':=by
 have H0:=Lib.hid (show ∃ l:List Int,Nums w g l∧l.length=n∧Go.Sort.siftDown ltI hi fi lo l.toArray=Go.Sort.siftDown ltI hi fi lo l0.toArray∧Mut (fun k=>k=g) w w from ⟨l0,h,hl,rfl,Mut.refl _ w⟩)
 generalize Go.Sort.siftDown ltI hi fi lo l0.toArray=D at *
 clear h hl
 go_enter Try.func97,Try.ntmps97
 go_wp2_with fail
 go_loopw [8] (fun s wr=>∃ (r:Nat) (l:List Int),s=.int .i64 r∧r≤n∧Nums wr g l∧l.length=n∧Go.Sort.siftDown ltI hi fi r l.toArray=D∧Mut (fun k=>k=g) w wr) (fun s _=>n+1 - (intOf s).toNat)
 case atStart =>
  obtain ⟨l,q1,q2,q3,q4⟩:=H0.out
  exact ⟨lo,l,rfl,hlo,q1,q2,q3,q4⟩
 case round =>
  clear H0
  obtain ⟨r,l,rfl,hr,hnu,hln,hsd,hmu⟩:=hrel
  rename World=>wl
  have NU:=Lib.hid hnu
  have MU:=Lib.hid hmu
  have SDH:=Lib.hid hsd
  clear hnu hmu hsd
  obtain ⟨c,hc⟩:∃ c,2*r+1=c:=⟨_,rfl⟩
  have hm1:IntKind.i64.wrap (2*(r:Int))=2*(r:Int):=by rw [IntKind.wrap_i64]; omega
  have hm2:IntKind.i64.wrap (2*(r:Int)+1)=(c:Int):=by rw [IntKind.wrap_i64]; omega
  by_cases hst:hi≤c
  ·have dst:decide ((hi:Int)≤(c:Int))=true:=by simp; omega
   go_wp2_with fail
   go_end0
   exact ⟨rfl,l,NU.out,hln,by rw [← SDH.out,sd_stop _ _ _ _ (by omega)],MU.out⟩
  have dst:decide ((hi:Int)≤(c:Int))=false:=by simp; omega
  obtain ⟨pr,hpr⟩:∃ pr,fi+r=pr:=⟨_,rfl⟩
  obtain ⟨x,hvp⟩:∃ x,at0 l pr=x:=⟨_,rfl⟩
  have HPR:=Lib.hid hpr
  have hrn:pr < n:=by omega
  obtain ⟨c1,hc1⟩:∃ c1,c+1=c1:=⟨_,rfl⟩
  go_wp2_with fail
  by_cases hch:c1 < hi
  ·have dch:decide ((c1:Int) < (hi:Int))=true:=by simp; omega
   obtain ⟨pc,hpc⟩:∃ pc,fi+c=pc:=⟨_,rfl⟩
   obtain ⟨pd,hpd⟩:∃ pd,pc+1=pd:=⟨_,rfl⟩
   obtain ⟨x1,hx1⟩:∃ x,at0 l pc=x:=⟨_,rfl⟩
   obtain ⟨x2,hx2⟩:∃ x,at0 l pd=x:=⟨_,rfl⟩
   have HL:=Lib.hid (show ltI l.toArray[fi+(2*r+1)]! l.toArray[fi+(2*r+1)+1]! = decide (x1 < x2) from by
    rw [show fi+(2*r+1)+1=pd by omega,show fi+(2*r+1)=pc by omega,arr_at l (by omega),arr_at l (by omega),hx1,hx2]
    rfl)
   refine beginL (S:=fun W'=>Ext wl W') (by kernel_rfl) ?_
   intro wd hqx
   have hq0:Ext wl wd:=hqx
   refine tLp 0 ((.int .i64 (c:Int))) rfl hq0 ?_
   simp only [ps]
   refine tL 1 ((.int .i64 (c1:Int))) rfl (Or.inl ⟨rfl,fun W' _=>by go_simp <;> (rw [IntKind.wrap_i64]; omega)⟩) hq0 ?_
   simp only [ps]
   refine tLp 2 ((.int .i64 (hi:Int))) rfl hq0 ?_
   simp only [ps]
   refine tL 3 ((.bool true)) rfl (Or.inl ⟨rfl,fun W' _=>by go_simp⟩) hq0 ?_
   simp only [ps]
   refine tLp 4 ((.bool true)) rfl hq0 ?_
   simp only [ps]
   refine tLp 5 ((.slice (some ⟨g,0,none⟩) n cap)) rfl hq0 ?_
   simp only [ps]
   refine tLp 6 ((.int .i64 (fi:Int))) rfl hq0 ?_
   simp only [ps]
   refine tLp 7 ((.int .i64 (c:Int))) rfl hq0 ?_
   simp only [ps]
   refine tL 8 ((.int .i64 (pc:Int))) rfl (Or.inl ⟨rfl,fun W' _=>by go_simp <;> (rw [IntKind.wrap_i64]; omega)⟩) hq0 ?_
   simp only [ps]
   refine tL 9 ((.pointer (some ⟨g,pc,none⟩))) rfl (Or.inl ⟨rfl,fun W' _=>by go_simp <;> (intro h; omega)⟩) hq0 ?_
   simp only [ps]
   refine tL 10 (_) rfl (yieldsIf_cell rfl 3 _ rfl ⟨g,pc,none⟩ rfl (.int .i64 x1) _ (fun W' hW'=>(show W'.cell? ⟨g,pc,none⟩=_ from (NU.out.ext hW').cell (by omega)).trans (by rw [hx1])) Try.underlying3 rfl) hq0 ?_
   simp only [ps]
   refine tLp 11 ((.slice (some ⟨g,0,none⟩) n cap)) rfl hq0 ?_
   simp only [ps]
   refine tLp 12 ((.int .i64 (fi:Int))) rfl hq0 ?_
   simp only [ps]
   refine tLp 13 ((.int .i64 (c:Int))) rfl hq0 ?_
   simp only [ps]
   refine tL 14 ((.int .i64 (pc:Int))) rfl (Or.inl ⟨rfl,fun W' _=>by go_simp <;> (rw [IntKind.wrap_i64]; omega)⟩) hq0 ?_
   simp only [ps]
   refine tL 15 ((.int .i64 (pd:Int))) rfl (Or.inl ⟨rfl,fun W' _=>by go_simp <;> (rw [IntKind.wrap_i64]; omega)⟩) hq0 ?_
   simp only [ps]
   refine tL 16 ((.pointer (some ⟨g,pd,none⟩))) rfl (Or.inl ⟨rfl,fun W' _=>by go_simp <;> (intro h; omega)⟩) hq0 ?_
   simp only [ps]
   refine tL 17 (_) rfl (yieldsIf_cell rfl 3 _ rfl ⟨g,pd,none⟩ rfl (.int .i64 x2) _ (fun W' hW'=>(show W'.cell? ⟨g,pd,none⟩=_ from (NU.out.ext hW').cell (by omega)).trans (by rw [hx2])) Try.underlying3 rfl) hq0 ?_
   simp only [ps]
   refine runG (i:=18) rfl (by rfl) (by kernel_rfl) (fun K hK=>?_)
   go_simp
   refine (less_ext x1 x2 _).mono ?_
   rintro e wc1 ⟨rfl,hx⟩
   have hq1:=hq0.trans hx
   refine hK.out _ _ hq1 (fun hHeld=>?_)
   try simp only [ps]
   clear hK K hHeld
   refine tLp 19 ((.bool (decide (x1 < x2)))) rfl hq1 ?_
   simp only [ps]
   refine wpAnyH_done (by kernel_rfl) ?_ _
   have NU2:=Lib.hid (NU.out.ext hq1)
   have MU2:=Lib.hid (MU.out.trans (hq1.mut (fun k=>k=g)))
   clear hq0 hqx hq1
   generalize hwn0:wc1=w3 at *
   obtain ⟨d1,hd1⟩:∃ d1,decide (x1 < x2)=d1:=⟨_,rfl⟩
   rw [hd1] at HL ⊢
   clear hd1
   cases d1 with
   | true =>
    obtain ⟨k,hk⟩:∃ k,c1=k:=⟨_,rfl⟩
    have hup:IntKind.i64.wrap ((c:Int)+1)=(k:Int):=by rw [IntKind.wrap_i64]; omega
    have HK:=Lib.hid ((sd_a hi fi r l.toArray (by omega) HL.out).symm.trans SDH.out)
    obtain ⟨pk,hpk⟩:∃ pk,fi+k=pk:=⟨_,rfl⟩
    obtain ⟨y,hvq⟩:∃ y,at0 l pk=y:=⟨_,rfl⟩
    have hkl:pk < n:=by omega
    have HK2:=Lib.hid (show (if decide (x < y) then Go.Sort.siftDown ltI hi fi k (swl l pr pk).toArray else l.toArray)=D from by
     have h0:=HK.out
     rw [show fi+r=pr from HPR.out,show fi+(2*r+2)=pk from by have:=HPR.out; omega,arr_at l (by omega),arr_at l (by omega),hvp,hvq,← swl_arr l (by omega) (by omega)] at h0
     rw [show k=(2*r+2) by omega]
     exact h0)
    clear HK
    go_wp2_with fail
    refine beginL (S:=fun W'=>Ext w3 W') (by kernel_rfl) ?_
    intro wd hqx
    have hq0:Ext w3 wd:=hqx
    refine tLp 0 ((.slice (some ⟨g,0,none⟩) n cap)) rfl hq0 ?_
    simp only [ps]
    refine tLp 1 ((.int .i64 (fi:Int))) rfl hq0 ?_
    simp only [ps]
    refine tLp 2 ((.int .i64 (r:Int))) rfl hq0 ?_
    simp only [ps]
    refine tL 3 ((.int .i64 (pr:Int))) rfl (Or.inl ⟨rfl,fun W' _=>by go_simp <;> (rw [IntKind.wrap_i64]; omega)⟩) hq0 ?_
    simp only [ps]
    refine tL 4 ((.pointer (some ⟨g,pr,none⟩))) rfl (Or.inl ⟨rfl,fun W' _=>by go_simp <;> (intro h; omega)⟩) hq0 ?_
    simp only [ps]
    refine tL 5 (_) rfl (yieldsIf_cell rfl 3 _ rfl ⟨g,pr,none⟩ rfl (.int .i64 x) _ (fun W' hW'=>(show W'.cell? ⟨g,pr,none⟩=_ from (NU2.out.ext hW').cell (by omega)).trans (by rw [hvp])) Try.underlying3 rfl) hq0 ?_
    simp only [ps]
    refine tLp 6 ((.slice (some ⟨g,0,none⟩) n cap)) rfl hq0 ?_
    simp only [ps]
    refine tLp 7 ((.int .i64 (fi:Int))) rfl hq0 ?_
    simp only [ps]
    refine tLp 8 ((.int .i64 (k:Int))) rfl hq0 ?_
    simp only [ps]
    refine tL 9 ((.int .i64 (pk:Int))) rfl (Or.inl ⟨rfl,fun W' _=>by go_simp <;> (rw [IntKind.wrap_i64]; omega)⟩) hq0 ?_
    simp only [ps]
    refine tL 10 ((.pointer (some ⟨g,pk,none⟩))) rfl (Or.inl ⟨rfl,fun W' _=>by go_simp <;> (intro h; omega)⟩) hq0 ?_
    simp only [ps]
    refine tL 11 (_) rfl (yieldsIf_cell rfl 3 _ rfl ⟨g,pk,none⟩ rfl (.int .i64 y) _ (fun W' hW'=>(show W'.cell? ⟨g,pk,none⟩=_ from (NU2.out.ext hW').cell (by omega)).trans (by rw [hvq])) Try.underlying3 rfl) hq0 ?_
    simp only [ps]
    refine runL (i:=12) rfl rfl (by kernel_rfl) (fun K hK=>?_)
    go_simp
    refine (less_ext x y _).mono ?_
    rintro e wc1 ⟨rfl,hx⟩
    have hq1:=hq0.trans hx
    refine hK.out _ _ hq1 (fun hHeld=>?_)
    try simp only [ps]
    clear hK K hHeld
    refine tL 13 ((.bool (!(decide (x < y))))) rfl (Or.inl ⟨rfl,fun W' _=>by go_simp⟩) hq1 ?_
    simp only [ps]
    refine wpAnyH_done (by kernel_rfl) ?_ _
    have NU5:=Lib.hid (NU2.out.ext hq1)
    have MU5:=Lib.hid (MU2.out.trans (hq1.mut (fun k=>k=g)))
    clear hq0 hqx hq1
    generalize hwn:wc1=w5 at *
    obtain ⟨dx,hdx⟩:∃ dx,decide (x < y)=dx:=⟨_,rfl⟩
    rw [hdx] at HK2 ⊢
    clear hdx
    cases dx with
    | false =>
     go_wp2_with fail
     refine bodyPost_ret (results_none rfl _ _ _) rfl ?_
     exact ⟨rfl,l,NU5.out,hln,HK2.out,MU5.out⟩
    | true =>
     go_wp2_with fail
     refine beginZ (S:=fun W'=>Ext w5 W') 21 (by kernel_rfl) ?_
     intro wd hqx
     have hq0:Ext w5 wd:=hqx
     refine takeY (i:=0) (z:=21) (v:=(.slice (some ⟨g,0,none⟩) n cap)) rfl (by kernel_rfl) (by kernel_rfl) (by kernel_rfl) (by kernel_rfl) (fun _ _ _ h=>h) (Or.inl ⟨rfl,fun _ _=>rfl⟩) hq0 ?_
     simp only [ps]
     refine takeY (i:=1) (z:=21) (v:=(.int .i64 (fi:Int))) rfl (by kernel_rfl) (by kernel_rfl) (by kernel_rfl) (by kernel_rfl) (fun _ _ _ h=>h) (Or.inl ⟨rfl,fun _ _=>rfl⟩) hq0 ?_
     simp only [ps]
     refine takeY (i:=2) (z:=21) (v:=(.int .i64 (r:Int))) rfl (by kernel_rfl) (by kernel_rfl) (by kernel_rfl) (by kernel_rfl) (fun _ _ _ h=>h) (Or.inl ⟨rfl,fun _ _=>rfl⟩) hq0 ?_
     simp only [ps]
     refine takeY (i:=3) (z:=21) (v:=(.int .i64 (pr:Int))) rfl (by kernel_rfl) (by kernel_rfl) (by kernel_rfl) (by kernel_rfl) (fun _ _ _ h=>h) (Or.inl ⟨rfl,fun W' _=>by go_simp <;> (rw [IntKind.wrap_i64]; omega)⟩) hq0 ?_
     simp only [ps]
     refine takeY (i:=4) (z:=21) (v:=(.slice (some ⟨g,0,none⟩) n cap)) rfl (by kernel_rfl) (by kernel_rfl) (by kernel_rfl) (by kernel_rfl) (fun _ _ _ h=>h) (Or.inl ⟨rfl,fun _ _=>rfl⟩) hq0 ?_
     simp only [ps]
     refine takeY (i:=5) (z:=21) (v:=(.int .i64 (fi:Int))) rfl (by kernel_rfl) (by kernel_rfl) (by kernel_rfl) (by kernel_rfl) (fun _ _ _ h=>h) (Or.inl ⟨rfl,fun _ _=>rfl⟩) hq0 ?_
     simp only [ps]
     refine takeY (i:=6) (z:=21) (v:=(.int .i64 (k:Int))) rfl (by kernel_rfl) (by kernel_rfl) (by kernel_rfl) (by kernel_rfl) (fun _ _ _ h=>h) (Or.inl ⟨rfl,fun _ _=>rfl⟩) hq0 ?_
     simp only [ps]
     refine takeY (i:=7) (z:=21) (v:=(.int .i64 (pk:Int))) rfl (by kernel_rfl) (by kernel_rfl) (by kernel_rfl) (by kernel_rfl) (fun _ _ _ h=>h) (Or.inl ⟨rfl,fun W' _=>by go_simp <;> (rw [IntKind.wrap_i64]; omega)⟩) hq0 ?_
     simp only [ps]
     refine takeY (i:=8) (z:=21) (v:=(.slice (some ⟨g,0,none⟩) n cap)) rfl (by kernel_rfl) (by kernel_rfl) (by kernel_rfl) (by kernel_rfl) (fun _ _ _ h=>h) (Or.inl ⟨rfl,fun _ _=>rfl⟩) hq0 ?_
     simp only [ps]
     refine takeY (i:=9) (z:=21) (v:=(.int .i64 (fi:Int))) rfl (by kernel_rfl) (by kernel_rfl) (by kernel_rfl) (by kernel_rfl) (fun _ _ _ h=>h) (Or.inl ⟨rfl,fun _ _=>rfl⟩) hq0 ?_
     simp only [ps]
     refine takeY (i:=10) (z:=21) (v:=(.int .i64 (k:Int))) rfl (by kernel_rfl) (by kernel_rfl) (by kernel_rfl) (by kernel_rfl) (fun _ _ _ h=>h) (Or.inl ⟨rfl,fun _ _=>rfl⟩) hq0 ?_
     simp only [ps]
     refine takeY (i:=11) (z:=21) (v:=(.int .i64 (pk:Int))) rfl (by kernel_rfl) (by kernel_rfl) (by kernel_rfl) (by kernel_rfl) (fun _ _ _ h=>h) (Or.inl ⟨rfl,fun W' _=>by go_simp <;> (rw [IntKind.wrap_i64]; omega)⟩) hq0 ?_
     simp only [ps]
     refine takeY (i:=12) (z:=21) (v:=(.pointer (some ⟨g,pk,none⟩))) rfl (by kernel_rfl) (by kernel_rfl) (by kernel_rfl) (by kernel_rfl) (fun _ _ _ h=>h) (Or.inl ⟨rfl,fun W' _=>by go_simp <;> (intro h; omega)⟩) hq0 ?_
     simp only [ps]
     refine takeZ (i:=13) (z:=21) (v:=_) rfl rfl (by kernel_rfl) (by kernel_rfl) (by kernel_rfl) (by kernel_rfl) (by kernel_rfl) (by kernel_rfl) (fun _ _ _ h=>h) (yieldsIf_cell rfl 3 _ rfl ⟨g,pk,none⟩ rfl (.int .i64 y) _ (fun W' hW'=>(show W'.cell? ⟨g,pk,none⟩=_ from (NU5.out.ext hW').cell (by omega)).trans (by rw [hvq])) Try.underlying3 rfl) hq0 ?_
     simp only [ps]
     refine takeY (i:=14) (z:=21) (v:=(.slice (some ⟨g,0,none⟩) n cap)) rfl (by kernel_rfl) (by kernel_rfl) (by kernel_rfl) (by kernel_rfl) (fun _ _ _ h=>h) (Or.inl ⟨rfl,fun _ _=>rfl⟩) hq0 ?_
     simp only [ps]
     refine takeY (i:=15) (z:=21) (v:=(.int .i64 (fi:Int))) rfl (by kernel_rfl) (by kernel_rfl) (by kernel_rfl) (by kernel_rfl) (fun _ _ _ h=>h) (Or.inl ⟨rfl,fun _ _=>rfl⟩) hq0 ?_
     simp only [ps]
     refine takeY (i:=16) (z:=21) (v:=(.int .i64 (r:Int))) rfl (by kernel_rfl) (by kernel_rfl) (by kernel_rfl) (by kernel_rfl) (fun _ _ _ h=>h) (Or.inl ⟨rfl,fun _ _=>rfl⟩) hq0 ?_
     simp only [ps]
     refine takeY (i:=17) (z:=21) (v:=(.int .i64 (pr:Int))) rfl (by kernel_rfl) (by kernel_rfl) (by kernel_rfl) (by kernel_rfl) (fun _ _ _ h=>h) (Or.inl ⟨rfl,fun W' _=>by go_simp <;> (rw [IntKind.wrap_i64]; omega)⟩) hq0 ?_
     simp only [ps]
     refine takeY (i:=18) (z:=21) (v:=(.pointer (some ⟨g,pr,none⟩))) rfl (by kernel_rfl) (by kernel_rfl) (by kernel_rfl) (by kernel_rfl) (fun _ _ _ h=>h) (Or.inl ⟨rfl,fun W' _=>by go_simp <;> (intro h; omega)⟩) hq0 ?_
     simp only [ps]
     refine takeZ (i:=19) (z:=21) (v:=_) rfl rfl (by kernel_rfl) (by kernel_rfl) (by kernel_rfl) (by kernel_rfl) (by kernel_rfl) (by kernel_rfl) (fun _ _ _ h=>h) (yieldsIf_cell rfl 3 _ rfl ⟨g,pr,none⟩ rfl (.int .i64 x) _ (fun W' hW'=>(show W'.cell? ⟨g,pr,none⟩=_ from (NU5.out.ext hW').cell (by omega)).trans (by rw [hvp])) Try.underlying3 rfl) hq0 ?_
     simp only [ps]
     refine takeY (i:=20) (z:=21) (v:=(.pointer (some ⟨g,pr,none⟩))) rfl (by kernel_rfl) (by kernel_rfl) (by kernel_rfl) (by kernel_rfl) (fun _ _ _ h=>h) (Or.inl ⟨rfl,fun W' _=>by go_simp <;> (intro h; omega)⟩) hq0 ?_
     simp only [ps]
     refine runZl (z:=21) rfl rfl (by kernel_rfl) (fun K hK=>?_)
     have hce:=(NU5.out.ext hq0)
     have hc1:wd.cell? ⟨g,pr,none⟩=some (.int .i64 (at0 l (pr))):=hce.cell (by omega)
     have hf1:=hce.froz (pr)
     go_simp
     refine hK.out _ _ ?_
     try simp only [ps]
     clear hK K hc1 hf1
     have hce2:=hce.set (p:=pr) (by omega) (at0 l (pk))
     rw [hvq] at hce2
     have hq9:=(hq0.mut (fun k=>k=g)).setCell (p:=⟨g,pr,none⟩) (.inl rfl) (.int .i64 y)
     refine tL 22 ((.pointer (some ⟨g,pk,none⟩))) rfl (Or.inl ⟨rfl,fun W' _=>by go_simp <;> (intro h; omega)⟩) trivial ?_
     simp only [ps]
     refine runL (i:=23) rfl rfl (by kernel_rfl) (fun K hK=>?_)
     have hc2:(wd.setCell ⟨g,pr,none⟩ (.int .i64 y)).cell? ⟨g,pk,none⟩=some (.int .i64 (at0 (l.set (pr) y) (pk))):=hce2.cell (by simp; omega)
     have hf2:=hce2.froz (pk)
     go_simp
     refine hK.out _ _ trivial (fun _=>?_)
     try simp only [ps]
     clear hK K hc2 hf2
     refine wpAnyH_done (by kernel_rfl) ?_ _
     have hce3:=hce2.set (p:=pk) (by simp; omega) (at0 l (pr))
     rw [hvp] at hce3
     have NU3:=Lib.hid (show Nums _ g (swl l (pr) (pk)) from by unfold swl; rw [hvp,hvq]; exact hce3)
     have MU3:=Lib.hid (hq9.setCell (p:=⟨g,pk,none⟩) (.inl rfl) (.int .i64 x))
     clear hce hce2 hce3 hq9 hq0 hqx
     generalize (wd.setCell ⟨g,pr,none⟩ (.int .i64 y)).setCell ⟨g,pk,none⟩ (.int .i64 x)=wm at *
     go_wp2_with fail
     go_roundw
     case rel=>exact ⟨k,swl l pr pk,rfl,by omega,NU3.out,by rw [swl_len]; exact hln,HK2.out,MU5.out.trans MU3.out⟩
     case measure=>simp [intOf] <;> omega
   | false =>
    obtain ⟨k,hk⟩:∃ k,c=k:=⟨_,rfl⟩
    have HK:=Lib.hid ((sd_b hi fi r l.toArray (by omega) (by rw [HL.out,Bool.and_false])).symm.trans SDH.out)
    obtain ⟨pk,hpk⟩:∃ pk,fi+k=pk:=⟨_,rfl⟩
    rw [hk]
    obtain ⟨y,hvq⟩:∃ y,at0 l pk=y:=⟨_,rfl⟩
    have hkl:pk < n:=by omega
    have HK2:=Lib.hid (show (if decide (x < y) then Go.Sort.siftDown ltI hi fi k (swl l pr pk).toArray else l.toArray)=D from by
     have h0:=HK.out
     rw [show fi+r=pr from HPR.out,show fi+(2*r+1)=pk from by have:=HPR.out; omega,arr_at l (by omega),arr_at l (by omega),hvp,hvq,← swl_arr l (by omega) (by omega)] at h0
     rw [show k=(2*r+1) by omega]
     exact h0)
    clear HK
    go_wp2_with fail
    refine beginL (S:=fun W'=>Ext w3 W') (by kernel_rfl) ?_
    intro wd hqx
    have hq0:Ext w3 wd:=hqx
    refine tLp 0 ((.slice (some ⟨g,0,none⟩) n cap)) rfl hq0 ?_
    simp only [ps]
    refine tLp 1 ((.int .i64 (fi:Int))) rfl hq0 ?_
    simp only [ps]
    refine tLp 2 ((.int .i64 (r:Int))) rfl hq0 ?_
    simp only [ps]
    refine tL 3 ((.int .i64 (pr:Int))) rfl (Or.inl ⟨rfl,fun W' _=>by go_simp <;> (rw [IntKind.wrap_i64]; omega)⟩) hq0 ?_
    simp only [ps]
    refine tL 4 ((.pointer (some ⟨g,pr,none⟩))) rfl (Or.inl ⟨rfl,fun W' _=>by go_simp <;> (intro h; omega)⟩) hq0 ?_
    simp only [ps]
    refine tL 5 (_) rfl (yieldsIf_cell rfl 3 _ rfl ⟨g,pr,none⟩ rfl (.int .i64 x) _ (fun W' hW'=>(show W'.cell? ⟨g,pr,none⟩=_ from (NU2.out.ext hW').cell (by omega)).trans (by rw [hvp])) Try.underlying3 rfl) hq0 ?_
    simp only [ps]
    refine tLp 6 ((.slice (some ⟨g,0,none⟩) n cap)) rfl hq0 ?_
    simp only [ps]
    refine tLp 7 ((.int .i64 (fi:Int))) rfl hq0 ?_
    simp only [ps]
    refine tLp 8 ((.int .i64 (k:Int))) rfl hq0 ?_
    simp only [ps]
    refine tL 9 ((.int .i64 (pk:Int))) rfl (Or.inl ⟨rfl,fun W' _=>by go_simp <;> (rw [IntKind.wrap_i64]; omega)⟩) hq0 ?_
    simp only [ps]
    refine tL 10 ((.pointer (some ⟨g,pk,none⟩))) rfl (Or.inl ⟨rfl,fun W' _=>by go_simp <;> (intro h; omega)⟩) hq0 ?_
    simp only [ps]
    refine tL 11 (_) rfl (yieldsIf_cell rfl 3 _ rfl ⟨g,pk,none⟩ rfl (.int .i64 y) _ (fun W' hW'=>(show W'.cell? ⟨g,pk,none⟩=_ from (NU2.out.ext hW').cell (by omega)).trans (by rw [hvq])) Try.underlying3 rfl) hq0 ?_
    simp only [ps]
    refine runL (i:=12) rfl rfl (by kernel_rfl) (fun K hK=>?_)
    go_simp
    refine (less_ext x y _).mono ?_
    rintro e wc1 ⟨rfl,hx⟩
    have hq1:=hq0.trans hx
    refine hK.out _ _ hq1 (fun hHeld=>?_)
    try simp only [ps]
    clear hK K hHeld
    refine tL 13 ((.bool (!(decide (x < y))))) rfl (Or.inl ⟨rfl,fun W' _=>by go_simp⟩) hq1 ?_
    simp only [ps]
    refine wpAnyH_done (by kernel_rfl) ?_ _
    have NU5:=Lib.hid (NU2.out.ext hq1)
    have MU5:=Lib.hid (MU2.out.trans (hq1.mut (fun k=>k=g)))
    clear hq0 hqx hq1
    generalize hwn:wc1=w5 at *
    obtain ⟨dx,hdx⟩:∃ dx,decide (x < y)=dx:=⟨_,rfl⟩
    rw [hdx] at HK2 ⊢
    clear hdx
    cases dx with
    | false =>
     go_wp2_with fail
     refine bodyPost_ret (results_none rfl _ _ _) rfl ?_
     exact ⟨rfl,l,NU5.out,hln,HK2.out,MU5.out⟩
    | true =>
     go_wp2_with fail
     refine beginZ (S:=fun W'=>Ext w5 W') 21 (by kernel_rfl) ?_
     intro wd hqx
     have hq0:Ext w5 wd:=hqx
     refine takeY (i:=0) (z:=21) (v:=(.slice (some ⟨g,0,none⟩) n cap)) rfl (by kernel_rfl) (by kernel_rfl) (by kernel_rfl) (by kernel_rfl) (fun _ _ _ h=>h) (Or.inl ⟨rfl,fun _ _=>rfl⟩) hq0 ?_
     simp only [ps]
     refine takeY (i:=1) (z:=21) (v:=(.int .i64 (fi:Int))) rfl (by kernel_rfl) (by kernel_rfl) (by kernel_rfl) (by kernel_rfl) (fun _ _ _ h=>h) (Or.inl ⟨rfl,fun _ _=>rfl⟩) hq0 ?_
     simp only [ps]
     refine takeY (i:=2) (z:=21) (v:=(.int .i64 (r:Int))) rfl (by kernel_rfl) (by kernel_rfl) (by kernel_rfl) (by kernel_rfl) (fun _ _ _ h=>h) (Or.inl ⟨rfl,fun _ _=>rfl⟩) hq0 ?_
     simp only [ps]
     refine takeY (i:=3) (z:=21) (v:=(.int .i64 (pr:Int))) rfl (by kernel_rfl) (by kernel_rfl) (by kernel_rfl) (by kernel_rfl) (fun _ _ _ h=>h) (Or.inl ⟨rfl,fun W' _=>by go_simp <;> (rw [IntKind.wrap_i64]; omega)⟩) hq0 ?_
     simp only [ps]
     refine takeY (i:=4) (z:=21) (v:=(.slice (some ⟨g,0,none⟩) n cap)) rfl (by kernel_rfl) (by kernel_rfl) (by kernel_rfl) (by kernel_rfl) (fun _ _ _ h=>h) (Or.inl ⟨rfl,fun _ _=>rfl⟩) hq0 ?_
     simp only [ps]
     refine takeY (i:=5) (z:=21) (v:=(.int .i64 (fi:Int))) rfl (by kernel_rfl) (by kernel_rfl) (by kernel_rfl) (by kernel_rfl) (fun _ _ _ h=>h) (Or.inl ⟨rfl,fun _ _=>rfl⟩) hq0 ?_
     simp only [ps]
     refine takeY (i:=6) (z:=21) (v:=(.int .i64 (k:Int))) rfl (by kernel_rfl) (by kernel_rfl) (by kernel_rfl) (by kernel_rfl) (fun _ _ _ h=>h) (Or.inl ⟨rfl,fun _ _=>rfl⟩) hq0 ?_
     simp only [ps]
     refine takeY (i:=7) (z:=21) (v:=(.int .i64 (pk:Int))) rfl (by kernel_rfl) (by kernel_rfl) (by kernel_rfl) (by kernel_rfl) (fun _ _ _ h=>h) (Or.inl ⟨rfl,fun W' _=>by go_simp <;> (rw [IntKind.wrap_i64]; omega)⟩) hq0 ?_
     simp only [ps]
     refine takeY (i:=8) (z:=21) (v:=(.slice (some ⟨g,0,none⟩) n cap)) rfl (by kernel_rfl) (by kernel_rfl) (by kernel_rfl) (by kernel_rfl) (fun _ _ _ h=>h) (Or.inl ⟨rfl,fun _ _=>rfl⟩) hq0 ?_
     simp only [ps]
     refine takeY (i:=9) (z:=21) (v:=(.int .i64 (fi:Int))) rfl (by kernel_rfl) (by kernel_rfl) (by kernel_rfl) (by kernel_rfl) (fun _ _ _ h=>h) (Or.inl ⟨rfl,fun _ _=>rfl⟩) hq0 ?_
     simp only [ps]
     refine takeY (i:=10) (z:=21) (v:=(.int .i64 (k:Int))) rfl (by kernel_rfl) (by kernel_rfl) (by kernel_rfl) (by kernel_rfl) (fun _ _ _ h=>h) (Or.inl ⟨rfl,fun _ _=>rfl⟩) hq0 ?_
     simp only [ps]
     refine takeY (i:=11) (z:=21) (v:=(.int .i64 (pk:Int))) rfl (by kernel_rfl) (by kernel_rfl) (by kernel_rfl) (by kernel_rfl) (fun _ _ _ h=>h) (Or.inl ⟨rfl,fun W' _=>by go_simp <;> (rw [IntKind.wrap_i64]; omega)⟩) hq0 ?_
     simp only [ps]
     refine takeY (i:=12) (z:=21) (v:=(.pointer (some ⟨g,pk,none⟩))) rfl (by kernel_rfl) (by kernel_rfl) (by kernel_rfl) (by kernel_rfl) (fun _ _ _ h=>h) (Or.inl ⟨rfl,fun W' _=>by go_simp <;> (intro h; omega)⟩) hq0 ?_
     simp only [ps]
     refine takeZ (i:=13) (z:=21) (v:=_) rfl rfl (by kernel_rfl) (by kernel_rfl) (by kernel_rfl) (by kernel_rfl) (by kernel_rfl) (by kernel_rfl) (fun _ _ _ h=>h) (yieldsIf_cell rfl 3 _ rfl ⟨g,pk,none⟩ rfl (.int .i64 y) _ (fun W' hW'=>(show W'.cell? ⟨g,pk,none⟩=_ from (NU5.out.ext hW').cell (by omega)).trans (by rw [hvq])) Try.underlying3 rfl) hq0 ?_
     simp only [ps]
     refine takeY (i:=14) (z:=21) (v:=(.slice (some ⟨g,0,none⟩) n cap)) rfl (by kernel_rfl) (by kernel_rfl) (by kernel_rfl) (by kernel_rfl) (fun _ _ _ h=>h) (Or.inl ⟨rfl,fun _ _=>rfl⟩) hq0 ?_
     simp only [ps]
     refine takeY (i:=15) (z:=21) (v:=(.int .i64 (fi:Int))) rfl (by kernel_rfl) (by kernel_rfl) (by kernel_rfl) (by kernel_rfl) (fun _ _ _ h=>h) (Or.inl ⟨rfl,fun _ _=>rfl⟩) hq0 ?_
     simp only [ps]
     refine takeY (i:=16) (z:=21) (v:=(.int .i64 (r:Int))) rfl (by kernel_rfl) (by kernel_rfl) (by kernel_rfl) (by kernel_rfl) (fun _ _ _ h=>h) (Or.inl ⟨rfl,fun _ _=>rfl⟩) hq0 ?_
     simp only [ps]
     refine takeY (i:=17) (z:=21) (v:=(.int .i64 (pr:Int))) rfl (by kernel_rfl) (by kernel_rfl) (by kernel_rfl) (by kernel_rfl) (fun _ _ _ h=>h) (Or.inl ⟨rfl,fun W' _=>by go_simp <;> (rw [IntKind.wrap_i64]; omega)⟩) hq0 ?_
     simp only [ps]
     refine takeY (i:=18) (z:=21) (v:=(.pointer (some ⟨g,pr,none⟩))) rfl (by kernel_rfl) (by kernel_rfl) (by kernel_rfl) (by kernel_rfl) (fun _ _ _ h=>h) (Or.inl ⟨rfl,fun W' _=>by go_simp <;> (intro h; omega)⟩) hq0 ?_
     simp only [ps]
     refine takeZ (i:=19) (z:=21) (v:=_) rfl rfl (by kernel_rfl) (by kernel_rfl) (by kernel_rfl) (by kernel_rfl) (by kernel_rfl) (by kernel_rfl) (fun _ _ _ h=>h) (yieldsIf_cell rfl 3 _ rfl ⟨g,pr,none⟩ rfl (.int .i64 x) _ (fun W' hW'=>(show W'.cell? ⟨g,pr,none⟩=_ from (NU5.out.ext hW').cell (by omega)).trans (by rw [hvp])) Try.underlying3 rfl) hq0 ?_
     simp only [ps]
     refine takeY (i:=20) (z:=21) (v:=(.pointer (some ⟨g,pr,none⟩))) rfl (by kernel_rfl) (by kernel_rfl) (by kernel_rfl) (by kernel_rfl) (fun _ _ _ h=>h) (Or.inl ⟨rfl,fun W' _=>by go_simp <;> (intro h; omega)⟩) hq0 ?_
     simp only [ps]
     refine runZl (z:=21) rfl rfl (by kernel_rfl) (fun K hK=>?_)
     have hce:=(NU5.out.ext hq0)
     have hc1:wd.cell? ⟨g,pr,none⟩=some (.int .i64 (at0 l (pr))):=hce.cell (by omega)
     have hf1:=hce.froz (pr)
     go_simp
     refine hK.out _ _ ?_
     try simp only [ps]
     clear hK K hc1 hf1
     have hce2:=hce.set (p:=pr) (by omega) (at0 l (pk))
     rw [hvq] at hce2
     have hq9:=(hq0.mut (fun k=>k=g)).setCell (p:=⟨g,pr,none⟩) (.inl rfl) (.int .i64 y)
     refine tL 22 ((.pointer (some ⟨g,pk,none⟩))) rfl (Or.inl ⟨rfl,fun W' _=>by go_simp <;> (intro h; omega)⟩) trivial ?_
     simp only [ps]
     refine runL (i:=23) rfl rfl (by kernel_rfl) (fun K hK=>?_)
     have hc2:(wd.setCell ⟨g,pr,none⟩ (.int .i64 y)).cell? ⟨g,pk,none⟩=some (.int .i64 (at0 (l.set (pr) y) (pk))):=hce2.cell (by simp; omega)
     have hf2:=hce2.froz (pk)
     go_simp
     refine hK.out _ _ trivial (fun _=>?_)
     try simp only [ps]
     clear hK K hc2 hf2
     refine wpAnyH_done (by kernel_rfl) ?_ _
     have hce3:=hce2.set (p:=pk) (by simp; omega) (at0 l (pr))
     rw [hvp] at hce3
     have NU3:=Lib.hid (show Nums _ g (swl l (pr) (pk)) from by unfold swl; rw [hvp,hvq]; exact hce3)
     have MU3:=Lib.hid (hq9.setCell (p:=⟨g,pk,none⟩) (.inl rfl) (.int .i64 x))
     clear hce hce2 hce3 hq9 hq0 hqx
     generalize (wd.setCell ⟨g,pr,none⟩ (.int .i64 y)).setCell ⟨g,pk,none⟩ (.int .i64 x)=wm at *
     go_wp2_with fail
     go_roundw
     case rel=>exact ⟨k,swl l pr pk,rfl,by omega,NU3.out,by rw [swl_len]; exact hln,HK2.out,MU5.out.trans MU3.out⟩
     case measure=>simp [intOf] <;> omega
  ·have dch:decide ((c1:Int) < (hi:Int))=false:=by simp; omega
   refine beginL (S:=fun W'=>Ext wl W') (by kernel_rfl) ?_
   intro wd hqx
   have hq0:Ext wl wd:=hqx
   refine tLp 0 ((.int .i64 (c:Int))) rfl hq0 ?_
   simp only [ps]
   refine tL 1 ((.int .i64 (c1:Int))) rfl (Or.inl ⟨rfl,fun W' _=>by go_simp <;> (rw [IntKind.wrap_i64]; omega)⟩) hq0 ?_
   simp only [ps]
   refine tLp 2 ((.int .i64 (hi:Int))) rfl hq0 ?_
   simp only [ps]
   refine tL 3 ((.bool false)) rfl (Or.inl ⟨rfl,fun W' _=>by go_simp⟩) hq0 ?_
   simp only [ps]
   refine tLp 4 ((.bool false)) rfl hq0 ?_
   simp only [ps]
   refine tL 5 (undef) rfl (Or.inr ⟨rfl,rfl⟩) hq0 ?_
   simp only [ps]
   refine tL 6 (undef) rfl (Or.inr ⟨rfl,rfl⟩) hq0 ?_
   simp only [ps]
   refine tL 7 (undef) rfl (Or.inr ⟨rfl,rfl⟩) hq0 ?_
   simp only [ps]
   refine tL 8 (undef) rfl (Or.inr ⟨rfl,rfl⟩) hq0 ?_
   simp only [ps]
   refine tL 9 (undef) rfl (Or.inr ⟨rfl,rfl⟩) hq0 ?_
   simp only [ps]
   refine tL 10 (undef) rfl (Or.inr ⟨rfl,rfl⟩) hq0 ?_
   simp only [ps]
   refine tL 11 (undef) rfl (Or.inr ⟨rfl,rfl⟩) hq0 ?_
   simp only [ps]
   refine tL 12 (undef) rfl (Or.inr ⟨rfl,rfl⟩) hq0 ?_
   simp only [ps]
   refine tL 13 (undef) rfl (Or.inr ⟨rfl,rfl⟩) hq0 ?_
   simp only [ps]
   refine tL 14 (undef) rfl (Or.inr ⟨rfl,rfl⟩) hq0 ?_
   simp only [ps]
   refine tL 15 (undef) rfl (Or.inr ⟨rfl,rfl⟩) hq0 ?_
   simp only [ps]
   refine tL 16 (undef) rfl (Or.inr ⟨rfl,rfl⟩) hq0 ?_
   simp only [ps]
   refine tL 17 (undef) rfl (Or.inr ⟨rfl,rfl⟩) hq0 ?_
   simp only [ps]
   refine tL 18 (undef) rfl (Or.inr ⟨rfl,rfl⟩) hq0 ?_
   simp only [ps]
   refine tLp 19 ((.bool false)) rfl hq0 ?_
   simp only [ps]
   refine wpAnyH_done (by kernel_rfl) ?_ _
   have NU2:=Lib.hid (NU.out.ext hq0)
   have MU2:=Lib.hid (MU.out.trans (hq0.mut (fun k=>k=g)))
   clear hq0 hqx
   generalize hwn0:wd=w3 at *
   obtain ⟨k,hk⟩:∃ k,c=k:=⟨_,rfl⟩
   have HK:=Lib.hid ((sd_b hi fi r l.toArray (by omega) (by rw [decide_eq_false (by omega),Bool.false_and])).symm.trans SDH.out)
   obtain ⟨pk,hpk⟩:∃ pk,fi+k=pk:=⟨_,rfl⟩
   rw [hk]
   obtain ⟨y,hvq⟩:∃ y,at0 l pk=y:=⟨_,rfl⟩
   have hkl:pk < n:=by omega
   have HK2:=Lib.hid (show (if decide (x < y) then Go.Sort.siftDown ltI hi fi k (swl l pr pk).toArray else l.toArray)=D from by
    have h0:=HK.out
    rw [show fi+r=pr from HPR.out,show fi+(2*r+1)=pk from by have:=HPR.out; omega,arr_at l (by omega),arr_at l (by omega),hvp,hvq,← swl_arr l (by omega) (by omega)] at h0
    rw [show k=(2*r+1) by omega]
    exact h0)
   clear HK
   go_wp2_with fail
   refine beginL (S:=fun W'=>Ext w3 W') (by kernel_rfl) ?_
   intro wd hqx
   have hq0:Ext w3 wd:=hqx
   refine tLp 0 ((.slice (some ⟨g,0,none⟩) n cap)) rfl hq0 ?_
   simp only [ps]
   refine tLp 1 ((.int .i64 (fi:Int))) rfl hq0 ?_
   simp only [ps]
   refine tLp 2 ((.int .i64 (r:Int))) rfl hq0 ?_
   simp only [ps]
   refine tL 3 ((.int .i64 (pr:Int))) rfl (Or.inl ⟨rfl,fun W' _=>by go_simp <;> (rw [IntKind.wrap_i64]; omega)⟩) hq0 ?_
   simp only [ps]
   refine tL 4 ((.pointer (some ⟨g,pr,none⟩))) rfl (Or.inl ⟨rfl,fun W' _=>by go_simp <;> (intro h; omega)⟩) hq0 ?_
   simp only [ps]
   refine tL 5 (_) rfl (yieldsIf_cell rfl 3 _ rfl ⟨g,pr,none⟩ rfl (.int .i64 x) _ (fun W' hW'=>(show W'.cell? ⟨g,pr,none⟩=_ from (NU2.out.ext hW').cell (by omega)).trans (by rw [hvp])) Try.underlying3 rfl) hq0 ?_
   simp only [ps]
   refine tLp 6 ((.slice (some ⟨g,0,none⟩) n cap)) rfl hq0 ?_
   simp only [ps]
   refine tLp 7 ((.int .i64 (fi:Int))) rfl hq0 ?_
   simp only [ps]
   refine tLp 8 ((.int .i64 (k:Int))) rfl hq0 ?_
   simp only [ps]
   refine tL 9 ((.int .i64 (pk:Int))) rfl (Or.inl ⟨rfl,fun W' _=>by go_simp <;> (rw [IntKind.wrap_i64]; omega)⟩) hq0 ?_
   simp only [ps]
   refine tL 10 ((.pointer (some ⟨g,pk,none⟩))) rfl (Or.inl ⟨rfl,fun W' _=>by go_simp <;> (intro h; omega)⟩) hq0 ?_
   simp only [ps]
   refine tL 11 (_) rfl (yieldsIf_cell rfl 3 _ rfl ⟨g,pk,none⟩ rfl (.int .i64 y) _ (fun W' hW'=>(show W'.cell? ⟨g,pk,none⟩=_ from (NU2.out.ext hW').cell (by omega)).trans (by rw [hvq])) Try.underlying3 rfl) hq0 ?_
   simp only [ps]
   refine runL (i:=12) rfl rfl (by kernel_rfl) (fun K hK=>?_)
   go_simp
   refine (less_ext x y _).mono ?_
   rintro e wc1 ⟨rfl,hx⟩
   have hq1:=hq0.trans hx
   refine hK.out _ _ hq1 (fun hHeld=>?_)
   try simp only [ps]
   clear hK K hHeld
   refine tL 13 ((.bool (!(decide (x < y))))) rfl (Or.inl ⟨rfl,fun W' _=>by go_simp⟩) hq1 ?_
   simp only [ps]
   refine wpAnyH_done (by kernel_rfl) ?_ _
   have NU5:=Lib.hid (NU2.out.ext hq1)
   have MU5:=Lib.hid (MU2.out.trans (hq1.mut (fun k=>k=g)))
   clear hq0 hqx hq1
   generalize hwn:wc1=w5 at *
   obtain ⟨dx,hdx⟩:∃ dx,decide (x < y)=dx:=⟨_,rfl⟩
   rw [hdx] at HK2 ⊢
   clear hdx
   cases dx with
   | false =>
    go_wp2_with fail
    refine bodyPost_ret (results_none rfl _ _ _) rfl ?_
    exact ⟨rfl,l,NU5.out,hln,HK2.out,MU5.out⟩
   | true =>
    go_wp2_with fail
    refine beginZ (S:=fun W'=>Ext w5 W') 21 (by kernel_rfl) ?_
    intro wd hqx
    have hq0:Ext w5 wd:=hqx
    refine takeY (i:=0) (z:=21) (v:=(.slice (some ⟨g,0,none⟩) n cap)) rfl (by kernel_rfl) (by kernel_rfl) (by kernel_rfl) (by kernel_rfl) (fun _ _ _ h=>h) (Or.inl ⟨rfl,fun _ _=>rfl⟩) hq0 ?_
    simp only [ps]
    refine takeY (i:=1) (z:=21) (v:=(.int .i64 (fi:Int))) rfl (by kernel_rfl) (by kernel_rfl) (by kernel_rfl) (by kernel_rfl) (fun _ _ _ h=>h) (Or.inl ⟨rfl,fun _ _=>rfl⟩) hq0 ?_
    simp only [ps]
    refine takeY (i:=2) (z:=21) (v:=(.int .i64 (r:Int))) rfl (by kernel_rfl) (by kernel_rfl) (by kernel_rfl) (by kernel_rfl) (fun _ _ _ h=>h) (Or.inl ⟨rfl,fun _ _=>rfl⟩) hq0 ?_
    simp only [ps]
    refine takeY (i:=3) (z:=21) (v:=(.int .i64 (pr:Int))) rfl (by kernel_rfl) (by kernel_rfl) (by kernel_rfl) (by kernel_rfl) (fun _ _ _ h=>h) (Or.inl ⟨rfl,fun W' _=>by go_simp <;> (rw [IntKind.wrap_i64]; omega)⟩) hq0 ?_
    simp only [ps]
    refine takeY (i:=4) (z:=21) (v:=(.slice (some ⟨g,0,none⟩) n cap)) rfl (by kernel_rfl) (by kernel_rfl) (by kernel_rfl) (by kernel_rfl) (fun _ _ _ h=>h) (Or.inl ⟨rfl,fun _ _=>rfl⟩) hq0 ?_
    simp only [ps]
    refine takeY (i:=5) (z:=21) (v:=(.int .i64 (fi:Int))) rfl (by kernel_rfl) (by kernel_rfl) (by kernel_rfl) (by kernel_rfl) (fun _ _ _ h=>h) (Or.inl ⟨rfl,fun _ _=>rfl⟩) hq0 ?_
    simp only [ps]
    refine takeY (i:=6) (z:=21) (v:=(.int .i64 (k:Int))) rfl (by kernel_rfl) (by kernel_rfl) (by kernel_rfl) (by kernel_rfl) (fun _ _ _ h=>h) (Or.inl ⟨rfl,fun _ _=>rfl⟩) hq0 ?_
    simp only [ps]
    refine takeY (i:=7) (z:=21) (v:=(.int .i64 (pk:Int))) rfl (by kernel_rfl) (by kernel_rfl) (by kernel_rfl) (by kernel_rfl) (fun _ _ _ h=>h) (Or.inl ⟨rfl,fun W' _=>by go_simp <;> (rw [IntKind.wrap_i64]; omega)⟩) hq0 ?_
    simp only [ps]
    refine takeY (i:=8) (z:=21) (v:=(.slice (some ⟨g,0,none⟩) n cap)) rfl (by kernel_rfl) (by kernel_rfl) (by kernel_rfl) (by kernel_rfl) (fun _ _ _ h=>h) (Or.inl ⟨rfl,fun _ _=>rfl⟩) hq0 ?_
    simp only [ps]
    refine takeY (i:=9) (z:=21) (v:=(.int .i64 (fi:Int))) rfl (by kernel_rfl) (by kernel_rfl) (by kernel_rfl) (by kernel_rfl) (fun _ _ _ h=>h) (Or.inl ⟨rfl,fun _ _=>rfl⟩) hq0 ?_
    simp only [ps]
    refine takeY (i:=10) (z:=21) (v:=(.int .i64 (k:Int))) rfl (by kernel_rfl) (by kernel_rfl) (by kernel_rfl) (by kernel_rfl) (fun _ _ _ h=>h) (Or.inl ⟨rfl,fun _ _=>rfl⟩) hq0 ?_
    simp only [ps]
    refine takeY (i:=11) (z:=21) (v:=(.int .i64 (pk:Int))) rfl (by kernel_rfl) (by kernel_rfl) (by kernel_rfl) (by kernel_rfl) (fun _ _ _ h=>h) (Or.inl ⟨rfl,fun W' _=>by go_simp <;> (rw [IntKind.wrap_i64]; omega)⟩) hq0 ?_
    simp only [ps]
    refine takeY (i:=12) (z:=21) (v:=(.pointer (some ⟨g,pk,none⟩))) rfl (by kernel_rfl) (by kernel_rfl) (by kernel_rfl) (by kernel_rfl) (fun _ _ _ h=>h) (Or.inl ⟨rfl,fun W' _=>by go_simp <;> (intro h; omega)⟩) hq0 ?_
    simp only [ps]
    refine takeZ (i:=13) (z:=21) (v:=_) rfl rfl (by kernel_rfl) (by kernel_rfl) (by kernel_rfl) (by kernel_rfl) (by kernel_rfl) (by kernel_rfl) (fun _ _ _ h=>h) (yieldsIf_cell rfl 3 _ rfl ⟨g,pk,none⟩ rfl (.int .i64 y) _ (fun W' hW'=>(show W'.cell? ⟨g,pk,none⟩=_ from (NU5.out.ext hW').cell (by omega)).trans (by rw [hvq])) Try.underlying3 rfl) hq0 ?_
    simp only [ps]
    refine takeY (i:=14) (z:=21) (v:=(.slice (some ⟨g,0,none⟩) n cap)) rfl (by kernel_rfl) (by kernel_rfl) (by kernel_rfl) (by kernel_rfl) (fun _ _ _ h=>h) (Or.inl ⟨rfl,fun _ _=>rfl⟩) hq0 ?_
    simp only [ps]
    refine takeY (i:=15) (z:=21) (v:=(.int .i64 (fi:Int))) rfl (by kernel_rfl) (by kernel_rfl) (by kernel_rfl) (by kernel_rfl) (fun _ _ _ h=>h) (Or.inl ⟨rfl,fun _ _=>rfl⟩) hq0 ?_
    simp only [ps]
    refine takeY (i:=16) (z:=21) (v:=(.int .i64 (r:Int))) rfl (by kernel_rfl) (by kernel_rfl) (by kernel_rfl) (by kernel_rfl) (fun _ _ _ h=>h) (Or.inl ⟨rfl,fun _ _=>rfl⟩) hq0 ?_
    simp only [ps]
    refine takeY (i:=17) (z:=21) (v:=(.int .i64 (pr:Int))) rfl (by kernel_rfl) (by kernel_rfl) (by kernel_rfl) (by kernel_rfl) (fun _ _ _ h=>h) (Or.inl ⟨rfl,fun W' _=>by go_simp <;> (rw [IntKind.wrap_i64]; omega)⟩) hq0 ?_
    simp only [ps]
    refine takeY (i:=18) (z:=21) (v:=(.pointer (some ⟨g,pr,none⟩))) rfl (by kernel_rfl) (by kernel_rfl) (by kernel_rfl) (by kernel_rfl) (fun _ _ _ h=>h) (Or.inl ⟨rfl,fun W' _=>by go_simp <;> (intro h; omega)⟩) hq0 ?_
    simp only [ps]
    refine takeZ (i:=19) (z:=21) (v:=_) rfl rfl (by kernel_rfl) (by kernel_rfl) (by kernel_rfl) (by kernel_rfl) (by kernel_rfl) (by kernel_rfl) (fun _ _ _ h=>h) (yieldsIf_cell rfl 3 _ rfl ⟨g,pr,none⟩ rfl (.int .i64 x) _ (fun W' hW'=>(show W'.cell? ⟨g,pr,none⟩=_ from (NU5.out.ext hW').cell (by omega)).trans (by rw [hvp])) Try.underlying3 rfl) hq0 ?_
    simp only [ps]
    refine takeY (i:=20) (z:=21) (v:=(.pointer (some ⟨g,pr,none⟩))) rfl (by kernel_rfl) (by kernel_rfl) (by kernel_rfl) (by kernel_rfl) (fun _ _ _ h=>h) (Or.inl ⟨rfl,fun W' _=>by go_simp <;> (intro h; omega)⟩) hq0 ?_
    simp only [ps]
    refine runZl (z:=21) rfl rfl (by kernel_rfl) (fun K hK=>?_)
    have hce:=(NU5.out.ext hq0)
    have hc1:wd.cell? ⟨g,pr,none⟩=some (.int .i64 (at0 l (pr))):=hce.cell (by omega)
    have hf1:=hce.froz (pr)
    go_simp
    refine hK.out _ _ ?_
    try simp only [ps]
    clear hK K hc1 hf1
    have hce2:=hce.set (p:=pr) (by omega) (at0 l (pk))
    rw [hvq] at hce2
    have hq9:=(hq0.mut (fun k=>k=g)).setCell (p:=⟨g,pr,none⟩) (.inl rfl) (.int .i64 y)
    refine tL 22 ((.pointer (some ⟨g,pk,none⟩))) rfl (Or.inl ⟨rfl,fun W' _=>by go_simp <;> (intro h; omega)⟩) trivial ?_
    simp only [ps]
    refine runL (i:=23) rfl rfl (by kernel_rfl) (fun K hK=>?_)
    have hc2:(wd.setCell ⟨g,pr,none⟩ (.int .i64 y)).cell? ⟨g,pk,none⟩=some (.int .i64 (at0 (l.set (pr) y) (pk))):=hce2.cell (by simp; omega)
    have hf2:=hce2.froz (pk)
    go_simp
    refine hK.out _ _ trivial (fun _=>?_)
    try simp only [ps]
    clear hK K hc2 hf2
    refine wpAnyH_done (by kernel_rfl) ?_ _
    have hce3:=hce2.set (p:=pk) (by simp; omega) (at0 l (pr))
    rw [hvp] at hce3
    have NU3:=Lib.hid (show Nums _ g (swl l (pr) (pk)) from by unfold swl; rw [hvp,hvq]; exact hce3)
    have MU3:=Lib.hid (hq9.setCell (p:=⟨g,pk,none⟩) (.inl rfl) (.int .i64 x))
    clear hce hce2 hce3 hq9 hq0 hqx
    generalize (wd.setCell ⟨g,pr,none⟩ (.int .i64 y)).setCell ⟨g,pk,none⟩ (.int .i64 x)=wm at *
    go_wp2_with fail
    go_roundw
    case rel=>exact ⟨k,swl l pr pk,rfl,by omega,NU3.out,by rw [swl_len]; exact hln,HK2.out,MU5.out.trans MU3.out⟩
    case measure=>simp [intOf] <;> omega
end Go.Proofs.Ytamnmjckhicapaa
