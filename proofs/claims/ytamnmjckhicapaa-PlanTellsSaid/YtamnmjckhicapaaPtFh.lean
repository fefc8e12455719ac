/- Part 8 of what PlanVersions stands on. No statement is proved here. -/
import Derived.Test.YtamnmjckhicapaaPtFg
namespace Go.Proofs.Ytamnmjckhicapaa
open Go.RowKit Go.BigFrame Go.WideShapes Go.ChangeShapes Go.Deep
set_option linter.unusedVariables false
set_option linter.unusedSimpArgs false
set_option maxRecDepth 100000
set_option maxRecDepth 100000
theorem oneb_set {w:World} {q:Nat} {v0:Value} {T:TypeId} (v:Value) (h:w.heap[q]?=some (.cells #[v0] T (0,0))):((w.setCell ⟨q,0,none⟩ v).drew).heap[q]?=some (.cells #[v] T (0,0)):=by
 have hg:q < w.heap.size:=(Array.getElem?_eq_some_iff.1 h).1
 have hg':w.heap[q]=.cells #[v0] T (0,0):=(Array.getElem?_eq_some_iff.1 h).2
 show (w.setCell ⟨q,0,none⟩ v).heap[q]?=_
 simp [World.setCell,Array.getElem_modify,hg',hg]
theorem one_mut (w:World) (q:Nat) (v:Value):Mut (fun k=>k=q) w ((w.setCell ⟨q,0,none⟩ v).drew):=(Mut.setCell (Mut.refl (fun k=>k=q) w) (p:=⟨q,0,none⟩) (.inl rfl) v).trans (Ext.mut (Ext.refl _).drew _)
theorem one_cell {w:World} {q:Nat} {v0:Value} {T:TypeId} (h:w.heap[q]?=some (.cells #[v0] T (0,0))):w.cell? ⟨q,0,none⟩=some v0:=by rw [cell_row h]; rfl
theorem one_froz {w:World} {q:Nat} {v0:Value} {T:TypeId} (h:w.heap[q]?=some (.cells #[v0] T (0,0))):w.frozen? ⟨q,0,none⟩=false:=by
 simp [World.frozen?,h]
set_option maxRecDepth 100000 in
set_option maxHeartbeats 2000000 in
theorem next_any (w:World) (q X:Nat) (hX:X < 18446744073709551616) (hq:w.heap[q]?=some (.cells #[.int .u64 X] 191 (0,0))) :
    Calls Try.prog 99 #[.pointer (some ⟨q,0,none⟩)] w fun e w'=>e=.returned (.int .u64 ((Go.Sort.xorNextN X:Nat):Int))∧w'.heap[q]?=some (.cells #[.int .u64 ((Go.Sort.xorNextN X:Nat):Int)] 191 (0,0))∧Mut (fun k=>k=q) w w':=by
 obtain ⟨A,hA⟩:∃ A:Nat,A=X ^^^ (X*8192 % 18446744073709551616):=⟨_,rfl⟩
 obtain ⟨B,hB⟩:∃ B:Nat,B=A ^^^ (A / 128):=⟨_,rfl⟩
 obtain ⟨C,hC⟩:∃ C:Nat,C=B ^^^ (B*131072 % 18446744073709551616):=⟨_,rfl⟩
 have lA:A < 18446744073709551616:=by rw [hA]; exact Nat.xor_lt_two_pow (n:=64) (by omega) (by omega)
 have lB:B < 18446744073709551616:=by rw [hB]; exact Nat.xor_lt_two_pow (n:=64) (by omega) (by omega)
 have e1:bits .xor .u64 (X:Int) (IntKind.u64.wrap ((X:Int)*8192))=(A:Int):=by
  rw [IntKind.wrap_u64,show ((X:Int)*8192 % 18446744073709551616)=((X*8192 % 18446744073709551616:Nat):Int) by omega,bits_xor_u64_nat _ _ hX (by omega),hA]
 have e2:bits .xor .u64 (A:Int) ((A:Int) / 128)=(B:Int):=by
  rw [show ((A:Int) / 128)=((A / 128:Nat):Int) by omega,bits_xor_u64_nat _ _ lA (by omega),hB]
 have e3:bits .xor .u64 (B:Int) (IntKind.u64.wrap ((B:Int)*131072))=(C:Int):=by
  rw [IntKind.wrap_u64,show ((B:Int)*131072 % 18446744073709551616)=((B*131072 % 18446744073709551616:Nat):Int) by omega,bits_xor_u64_nat _ _ lB (by omega),hC]
 have hv:Go.Sort.xorNextN X=C:=by unfold Go.Sort.xorNextN; dsimp only; rw [← hA,← hB,← hC]
 have HV:=Lib.hid hv
 have HQ:=Lib.hid hq
 have cq:=one_cell hq
 have hf:=one_froz hq
 clear hA hB hC hv hq
 go_enter Try.func99,Try.ntmps99
 go_wp2
 go_region
 have HR1:=Lib.hid (oneb_set (.int .u64 (A:Int)) HQ.out)
 have HM1:=Lib.hid (one_mut w q (.int .u64 (A:Int)))
 clear cq hf
 generalize (w.setCell ⟨q,0,none⟩ (.int .u64 (A:Int))).drew=w1 at *
 have HQ1:=HR1
 have cq:=one_cell HQ1.out
 have hf:=one_froz HQ1.out
 go_wp2
 go_region
 have HR2:=Lib.hid (oneb_set (.int .u64 (B:Int)) HQ1.out)
 have HM2:=Lib.hid (one_mut w1 q (.int .u64 (B:Int)))
 clear cq hf
 generalize (w1.setCell ⟨q,0,none⟩ (.int .u64 (B:Int))).drew=w2 at *
 have HQ2:=HR2
 have cq:=one_cell HQ2.out
 have hf:=one_froz HQ2.out
 go_wp2
 go_region
 have HR3:=Lib.hid (oneb_set (.int .u64 (C:Int)) HQ2.out)
 have HM3:=Lib.hid (one_mut w2 q (.int .u64 (C:Int)))
 clear cq hf
 generalize (w2.setCell ⟨q,0,none⟩ (.int .u64 (C:Int))).drew=w3 at *
 have HQ3:=HR3
 have cq:=one_cell HQ3.out
 have hf:=one_froz HQ3.out
 go_wp2
 go_ret
 exact ⟨by rw [HV.out]; rfl,by rw [HV.out]; exact HQ3.out,HM1.out.trans (HM2.out.trans HM3.out)⟩
end Go.Proofs.Ytamnmjckhicapaa
namespace Go.Proofs.Ytamnmjckhicapaa
open Go.RowKit Go.BigFrame Go.WideShapes Go.ChangeShapes Go.Deep
set_option linter.unusedVariables false
set_option linter.unusedSimpArgs false
set_option maxRecDepth 100000
set_option maxRecDepth 100000
theorem Mut.fresh {a b c:World} {F G:Nat→Prop} (h:Mut F a b) (m:Mut G b c) (hG:∀ k,k < a.heap.size→¬ G k):Mut F a c :=
 ⟨m.1.trans h.1,m.2.1.trans h.2.1,m.2.2.1.trans h.2.2.1,Nat.le_trans h.size m.size,fun k hk hf=>(m.heap (Nat.lt_of_lt_of_le hk h.size) (hG k hk)).trans (h.heap hk hf)⟩
def bpR (a L M:Nat):Nat→Nat→UInt64 × Array Int→Array Int
 | 0,_,st=>st.2
 | k+1,t,st=>bpR a L M k (t+1) (Go.Sort.breakStep a L M st t)
theorem bp_eq (d:Array Int) (a b L:Nat) (hL:b - a=L) (h8:8≤L):Go.Sort.breakPatterns d a b=bpR a L (1 <<< Go.Sort.bitsLen L) 3 (a+L / 4*2 - 1) (UInt64.ofNat L,d):=by
 unfold Go.Sort.breakPatterns
 rw [hL]
 dsimp only
 rw [if_pos h8]
 rfl
theorem bp_go (a L M k t:Nat) (r:UInt64) (d:Array Int) (R O o:Nat) (hR:(Go.Sort.xorNext r).toNat=R) (hO:R &&& (M - 1)=O) (ho:(if O ≥ L then O - L else O)=o):bpR a L M (k+1) t (r,d)=bpR a L M k (t+1) (Go.Sort.xorNext r,Go.Sort.swp d t (a+o)):=by
 subst hR; subst hO; subst ho
 rfl
set_option maxRecDepth 100000 in
set_option maxHeartbeats 2000000 in
theorem brk_any (w:World) (g n cap:Nat) (l0:List Int) (a b:Nat) (hab:a+12 < b) (hb:b≤n) (hn:n≤60) (h:Nums w g l0) (hl:l0.length=n) :
    Calls Try.prog 86 #[(.slice (some ⟨g,0,none⟩) n cap),.int .i64 a,.int .i64 b] w fun e w'=>e=.returned (.tuple #[])∧SoP w g n (Go.Sort.breakPatterns l0.toArray a b) w':=by
 have NU:=Lib.hid h
 have hgw:=h.lt
 obtain ⟨L,hL⟩:∃ L,b - a=L:=⟨_,rfl⟩
 obtain ⟨i0,hi0⟩:∃ i0,a+L / 4*2 - 1=i0:=⟨_,rfl⟩
 obtain ⟨M,hM⟩:∃ M,1 <<< Go.Sort.bitsLen L=M:=⟨_,rfl⟩
 have hM1:1≤M:=by rw [← hM,Nat.one_shiftLeft]; exact Nat.two_pow_pos _
 have hM2:M≤2*L:=by rw [← hM,Nat.one_shiftLeft]; exact Go.Sort.two_pow_bitsLen_le (by omega)
 have PW:=Lib.hid (fun w=>by have h:=pow_any L (by omega) w; rw [hM] at h; exact h:∀ w,Calls Try.prog 98 #[.int .i64 L] w fun e w'=>e=.returned (.int .u64 (M:Int))∧w'=w)
 have HB:=Lib.hid (bp_eq l0.toArray a b L hL (by omega))
 rw [hi0,hM] at HB
 obtain ⟨D,hD⟩:∃ D,Go.Sort.breakPatterns l0.toArray a b=D:=⟨_,rfl⟩
 rw [hD] at HB
 have HD:=Lib.hid hD
 have hLr:(UInt64.ofNat L).toNat=L:=by simp; omega
 have HLR:=Lib.hid hLr
 have G1:=Lib.hid (show (a:Int)+(L:Int) / 4*2 - 1=(i0:Nat) by omega)
 have hLn:L≤60:=by omega
 have hL13:13≤L:=by omega
 have haL:a+L≤n:=by omega
 have hi3:i0+2 < a+L:=by omega
 have G2:=Lib.hid (show i0+1=a+L / 4*2 by omega)
 have g4:(b:Int) - (a:Int)=(L:Nat):=by omega
 have hw1:IntKind.i64.wrap ((b:Int) - (a:Int))=(L:Int):=(congrArg IntKind.i64.wrap g4).trans (wrapn (by omega))
 have hw2:IntKind.u64.wrap (L:Int)=(L:Int):=by rw [IntKind.wrap_u64]; omega
 have d8:decide ((8:Int)≤(L:Int))=true:=by simp; omega
 have d8b:decide ((L:Int) ≥ (8:Int))=true:=by simp; omega
 clear h hL hi0 hM hD hLr g4
 go_enter Try.func86,Try.ntmps86
 go_upto_region 3 with (first
  | fail
  | ((with_reducible refine at_alloc 191 ?_); refine al_one rfl 191 rfl .u64 0 (fun _=>rfl) ?_
     intro q w1 hq0 hsz hx1)
  | ((with_reducible refine at_store 191 ?_); refine st_at rfl rfl 191 _ _ rfl q 0 _ #[.int .u64 (L:Int)] #[.int .u64 0] #[.int .u64 (L:Int)] 191 rfl rfl rfl hq0 (by exact (by decide:0+1≤1)) (by kernel_rfl) rfl rfl ?_
     intro w2 hq2 hm2))
 clear hw1 hw2 d8 d8b
 have hqg:q ≠ g:=by omega
 have hqw:w.heap.size≤q:=by omega
 have NU2:=Lib.hid (show Nums w2 g l0 from by
  have hnn:=NU.out.ext hx1
  have hlt:=hnn.lt
  obtain ⟨cur,e1,e2⟩:=hnn
  exact ⟨cur,(hm2.heap hlt (fun hc=>hqg (show g=q from hc).symm)).trans e1,e2⟩)
 have MU2:=Lib.hid (Mut.fresh (hx1.mut (fun k=>k=g)) hm2 (fun k hk hF=>by have h2:k=q:=hF; omega))
 have HQ2:=Lib.hid hq2
 clear hq0 hsz hx1 hq2 hm2
 go_wp2_with fail
 refine (PW.out _).mono ?_
 rintro e w3 ⟨rfl,rfl⟩
 go_wp2_with fail
 rw [G1.out]
 go_loopw [9] (fun s wr=>∃ (t k:Nat) (r:UInt64) (l:List Int),s=.int .i64 t∧t+k=i0+3∧wr.heap[q]?=some (.cells #[.int .u64 ((r.toNat:Nat):Int)] 191 (0,0))∧Nums wr g l∧l.length=n∧bpR a L M k t (r,l.toArray)=D∧Mut (fun k=>k=g) w wr) (fun s _=>i0+4 - (intOf s).toNat)
 case atStart=>exact ⟨i0,3,UInt64.ofNat L,l0,rfl,rfl,by rw [HLR.out]; exact HQ2.out,NU2.out,hl,HB.out.symm,MU2.out⟩
 case round =>
  clear NU2 MU2 HQ2 HB HLR
  obtain ⟨t,k,r,l,rfl,htk,hq,hnu,hln,hso,hmu⟩:=hrel
  rename World=>wl
  have NU:=Lib.hid hnu
  have MU:=Lib.hid hmu
  have SO:=Lib.hid hso
  obtain ⟨R,hR⟩:∃ R,r.toNat=R:=⟨_,rfl⟩
  rw [hR] at hq
  have lR:R < 18446744073709551616:=by rw [← hR]; exact r.toNat_lt
  have HQ:=Lib.hid hq
  clear hnu hmu hso hq
  cases k with
  | zero =>
   have dle:decide ((t:Int)≤(a:Int)+(L:Int) / 4*2+1)=false:=by have:=G2.out; simp; omega
   go_wp2_with fail
   go_end0
   exact ⟨rfl,l,NU.out,hln,by rw [HD.out]; exact SO.out,MU.out⟩
  | succ k =>
   obtain ⟨R',hR'⟩:∃ R',Go.Sort.xorNextN R=R':=⟨_,rfl⟩
   have HR':=Lib.hid (show (Go.Sort.xorNext r).toNat=R' from by rw [Go.Sort.xorNext_toNat,hR,hR'])
   have lR':R' < 18446744073709551616:=by rw [← hR']; exact Go.Sort.xorNextN_lt R lR
   obtain ⟨O,hO⟩:∃ O,R' &&& (M - 1)=O:=⟨_,rfl⟩
   have lO:O≤M - 1:=by rw [← hO]; exact Nat.and_le_right
   have eAnd:bits .and .u64 (R':Int) ((M:Int) - 1)=(O:Int):=by
    rw [show ((M:Int) - 1)=((M - 1:Nat):Int) by omega,bits_and_u64_nat _ _ lR' (by omega),hO]
   have HO:=Lib.hid hO
   have NX:=Lib.hid (next_any wl q R lR HQ.out)
   rw [hR'] at NX
   clear hR hR' hO
   have dle:decide ((t:Int)≤(a:Int)+(L:Int) / 4*2+1)=true:=by have:=G2.out; simp; omega
   go_wp2_with fail
   refine NX.out.mono ?_
   rintro e w6 ⟨rfl,hq6,hm6⟩
   have NU6:=Lib.hid (show Nums w6 g l from by
    have hnn:=NU.out
    have hlt:=hnn.lt
    obtain ⟨cur,e1,e2⟩:=hnn
    exact ⟨cur,(hm6.heap hlt (fun hc=>hqg (show g=q from hc).symm)).trans e1,e2⟩)
   have MU6:=Lib.hid (Mut.fresh MU.out hm6 (fun k hk hF=>by have h2:k=q:=hF; omega))
   have HQ6:=Lib.hid hq6
   clear hq6 hm6 NX
   by_cases hLO:L≤O
   ·have dlo:decide ((L:Int)≤(O:Int))=true:=by simp; omega
    have dlo2:decide ((O:Int) ≥ (L:Int))=true:=by simp; omega
    obtain ⟨o,ho⟩:∃ o,O - L=o:=⟨_,rfl⟩
    have hol:o < L:=by omega
    have hwo:IntKind.i64.wrap ((O:Int) - (L:Int))=(o:Int):=by rw [IntKind.wrap_i64]; omega
    obtain ⟨pq,hpq⟩:∃ pq,a+o=pq:=⟨_,rfl⟩
    have BO:=Lib.hid (bp_go a L M k t r l.toArray R' O o HR'.out HO.out (by rw [← ho]; exact if_pos hLO))
    have hpn:pq < n:=by omega
    have htn:t < n:=by omega
    clear ho
    obtain ⟨x,hvp⟩:∃ x,at0 l t=x:=⟨_,rfl⟩
    obtain ⟨y,hvq⟩:∃ y,at0 l pq=y:=⟨_,rfl⟩
    go_wp2_with fail
    refine beginZ (S:=fun W'=>Ext w6 W') 17 (by kernel_rfl) ?_
    intro wd hqx
    have hq0:Ext w6 wd:=hqx
    refine takeY (i:=0) (z:=17) (v:=(.slice (some ⟨g,0,none⟩) n cap)) rfl (by kernel_rfl) (by kernel_rfl) (by kernel_rfl) (by kernel_rfl) (fun _ _ _ h=>h) (Or.inl ⟨rfl,fun _ _=>rfl⟩) hq0 ?_
    simp only [ps]
    refine takeY (i:=1) (z:=17) (v:=(.int .i64 (t:Int))) rfl (by kernel_rfl) (by kernel_rfl) (by kernel_rfl) (by kernel_rfl) (fun _ _ _ h=>h) (Or.inl ⟨rfl,fun _ _=>rfl⟩) hq0 ?_
    simp only [ps]
    refine takeY (i:=2) (z:=17) (v:=(.slice (some ⟨g,0,none⟩) n cap)) rfl (by kernel_rfl) (by kernel_rfl) (by kernel_rfl) (by kernel_rfl) (fun _ _ _ h=>h) (Or.inl ⟨rfl,fun _ _=>rfl⟩) hq0 ?_
    simp only [ps]
    refine takeY (i:=3) (z:=17) (v:=(.int .i64 (a:Int))) rfl (by kernel_rfl) (by kernel_rfl) (by kernel_rfl) (by kernel_rfl) (fun _ _ _ h=>h) (Or.inl ⟨rfl,fun _ _=>rfl⟩) hq0 ?_
    simp only [ps]
    refine takeY (i:=4) (z:=17) (v:=(.int .i64 (o:Int))) rfl (by kernel_rfl) (by kernel_rfl) (by kernel_rfl) (by kernel_rfl) (fun _ _ _ h=>h) (Or.inl ⟨rfl,fun _ _=>rfl⟩) hq0 ?_
    simp only [ps]
    refine takeY (i:=5) (z:=17) (v:=(.int .i64 (pq:Int))) rfl (by kernel_rfl) (by kernel_rfl) (by kernel_rfl) (by kernel_rfl) (fun _ _ _ h=>h) (Or.inl ⟨rfl,fun W' _=>by go_simp <;> (rw [IntKind.wrap_i64]; omega)⟩) hq0 ?_
    simp only [ps]
    refine takeY (i:=6) (z:=17) (v:=(.slice (some ⟨g,0,none⟩) n cap)) rfl (by kernel_rfl) (by kernel_rfl) (by kernel_rfl) (by kernel_rfl) (fun _ _ _ h=>h) (Or.inl ⟨rfl,fun _ _=>rfl⟩) hq0 ?_
    simp only [ps]
    refine takeY (i:=7) (z:=17) (v:=(.int .i64 (a:Int))) rfl (by kernel_rfl) (by kernel_rfl) (by kernel_rfl) (by kernel_rfl) (fun _ _ _ h=>h) (Or.inl ⟨rfl,fun _ _=>rfl⟩) hq0 ?_
    simp only [ps]
    refine takeY (i:=8) (z:=17) (v:=(.int .i64 (o:Int))) rfl (by kernel_rfl) (by kernel_rfl) (by kernel_rfl) (by kernel_rfl) (fun _ _ _ h=>h) (Or.inl ⟨rfl,fun _ _=>rfl⟩) hq0 ?_
    simp only [ps]
    refine takeY (i:=9) (z:=17) (v:=(.int .i64 (pq:Int))) rfl (by kernel_rfl) (by kernel_rfl) (by kernel_rfl) (by kernel_rfl) (fun _ _ _ h=>h) (Or.inl ⟨rfl,fun W' _=>by go_simp <;> (rw [IntKind.wrap_i64]; omega)⟩) hq0 ?_
    simp only [ps]
    refine takeY (i:=10) (z:=17) (v:=(.pointer (some ⟨g,pq,none⟩))) rfl (by kernel_rfl) (by kernel_rfl) (by kernel_rfl) (by kernel_rfl) (fun _ _ _ h=>h) (Or.inl ⟨rfl,fun W' _=>by go_simp <;> (intro h; omega)⟩) hq0 ?_
    simp only [ps]
    refine takeZ (i:=11) (z:=17) (v:=_) rfl rfl (by kernel_rfl) (by kernel_rfl) (by kernel_rfl) (by kernel_rfl) (by kernel_rfl) (by kernel_rfl) (fun _ _ _ h=>h) (yieldsIf_cell rfl 3 _ rfl ⟨g,pq,none⟩ rfl (.int .i64 y) _ (fun W' hW'=>(show W'.cell? ⟨g,pq,none⟩=_ from (NU6.out.ext hW').cell (by omega)).trans (by rw [hvq])) Try.underlying3 rfl) hq0 ?_
    simp only [ps]
    refine takeY (i:=12) (z:=17) (v:=(.slice (some ⟨g,0,none⟩) n cap)) rfl (by kernel_rfl) (by kernel_rfl) (by kernel_rfl) (by kernel_rfl) (fun _ _ _ h=>h) (Or.inl ⟨rfl,fun _ _=>rfl⟩) hq0 ?_
    simp only [ps]
    refine takeY (i:=13) (z:=17) (v:=(.int .i64 (t:Int))) rfl (by kernel_rfl) (by kernel_rfl) (by kernel_rfl) (by kernel_rfl) (fun _ _ _ h=>h) (Or.inl ⟨rfl,fun _ _=>rfl⟩) hq0 ?_
    simp only [ps]
    refine takeY (i:=14) (z:=17) (v:=(.pointer (some ⟨g,t,none⟩))) rfl (by kernel_rfl) (by kernel_rfl) (by kernel_rfl) (by kernel_rfl) (fun _ _ _ h=>h) (Or.inl ⟨rfl,fun W' _=>by go_simp <;> (intro h; omega)⟩) hq0 ?_
    simp only [ps]
    refine takeZ (i:=15) (z:=17) (v:=_) rfl rfl (by kernel_rfl) (by kernel_rfl) (by kernel_rfl) (by kernel_rfl) (by kernel_rfl) (by kernel_rfl) (fun _ _ _ h=>h) (yieldsIf_cell rfl 3 _ rfl ⟨g,t,none⟩ rfl (.int .i64 x) _ (fun W' hW'=>(show W'.cell? ⟨g,t,none⟩=_ from (NU6.out.ext hW').cell (by omega)).trans (by rw [hvp])) Try.underlying3 rfl) hq0 ?_
    simp only [ps]
    refine takeY (i:=16) (z:=17) (v:=(.pointer (some ⟨g,t,none⟩))) rfl (by kernel_rfl) (by kernel_rfl) (by kernel_rfl) (by kernel_rfl) (fun _ _ _ h=>h) (Or.inl ⟨rfl,fun W' _=>by go_simp <;> (intro h; omega)⟩) hq0 ?_
    simp only [ps]
    refine runZl (z:=17) rfl rfl (by kernel_rfl) (fun K hK=>?_)
    have hce:=(NU6.out.ext hq0)
    have hc1:wd.cell? ⟨g,t,none⟩=some (.int .i64 (at0 l (t))):=hce.cell (by omega)
    have hf1:=hce.froz (t)
    go_simp
    refine hK.out _ _ ?_
    try simp only [ps]
    clear hK K hc1 hf1
    have hce2:=hce.set (p:=t) (by omega) (at0 l (pq))
    rw [hvq] at hce2
    have hq9:=(hq0.mut (fun k=>k=g)).setCell (p:=⟨g,t,none⟩) (.inl rfl) (.int .i64 y)
    refine tL 18 ((.pointer (some ⟨g,pq,none⟩))) rfl (Or.inl ⟨rfl,fun W' _=>by go_simp <;> (intro h; omega)⟩) trivial ?_
    simp only [ps]
    refine runL (i:=19) rfl rfl (by kernel_rfl) (fun K hK=>?_)
    have hc2:(wd.setCell ⟨g,t,none⟩ (.int .i64 y)).cell? ⟨g,pq,none⟩=some (.int .i64 (at0 (l.set (t) y) (pq))):=hce2.cell (by simp; omega)
    have hf2:=hce2.froz (pq)
    go_simp
    refine hK.out _ _ trivial (fun _=>?_)
    try simp only [ps]
    clear hK K hc2 hf2
    refine wpAnyH_done (by kernel_rfl) ?_ _
    have hce3:=hce2.set (p:=pq) (by simp; omega) (at0 l (t))
    rw [hvp] at hce3
    have NU3:=Lib.hid (show Nums _ g (swl l (t) (pq)) from by unfold swl; rw [hvp,hvq]; exact hce3)
    have MU3:=Lib.hid (hq9.setCell (p:=⟨g,pq,none⟩) (.inl rfl) (.int .i64 x))
    clear hce hce2 hce3 hq9 hq0 hqx
    generalize (wd.setCell ⟨g,t,none⟩ (.int .i64 y)).setCell ⟨g,pq,none⟩ (.int .i64 x)=wm at *
    have SO2:=Lib.hid (show bpR a L M k (t+1) (Go.Sort.xorNext r,(swl l t pq).toArray)=D from by
     rw [← SO.out,BO.out,swl_arr l (by omega) (by omega),hpq])
    clear hvp hvq BO SO
    have hq9:=(MU3.out.heap (heap_lt HQ6.out) (fun hc=>hqg (show q=g from hc))).trans HQ6.out
    have HQ9:=Lib.hid hq9
    have MU9:=Lib.hid (MU6.out.trans MU3.out)
    clear hq9
    have hup:IntKind.i64.wrap ((t:Int)+1)=((t+1:Nat):Int):=by rw [IntKind.wrap_i64]; omega
    go_wp2_with fail
    go_roundw
    case rel=>exact ⟨t+1,k,Go.Sort.xorNext r,swl l t pq,by go_num,by omega,by rw [HR'.out]; exact HQ9.out,NU3.out,by rw [swl_len]; exact hln,SO2.out,MU9.out⟩
    case measure=>simp [intOf] <;> omega
   ·have dlo:decide ((L:Int)≤(O:Int))=false:=by simp; omega
    have dlo2:decide ((O:Int) ≥ (L:Int))=false:=by simp; omega
    have hol:O < L:=by omega
    obtain ⟨pq,hpq⟩:∃ pq,a+O=pq:=⟨_,rfl⟩
    have BO:=Lib.hid (bp_go a L M k t r l.toArray R' O O HR'.out HO.out (if_neg hLO))
    have hpn:pq < n:=by omega
    have htn:t < n:=by omega
    obtain ⟨x,hvp⟩:∃ x,at0 l t=x:=⟨_,rfl⟩
    obtain ⟨y,hvq⟩:∃ y,at0 l pq=y:=⟨_,rfl⟩
    go_wp2_with fail
    refine beginZ (S:=fun W'=>Ext w6 W') 17 (by kernel_rfl) ?_
    intro wd hqx
    have hq0:Ext w6 wd:=hqx
    refine takeY (i:=0) (z:=17) (v:=(.slice (some ⟨g,0,none⟩) n cap)) rfl (by kernel_rfl) (by kernel_rfl) (by kernel_rfl) (by kernel_rfl) (fun _ _ _ h=>h) (Or.inl ⟨rfl,fun _ _=>rfl⟩) hq0 ?_
    simp only [ps]
    refine takeY (i:=1) (z:=17) (v:=(.int .i64 (t:Int))) rfl (by kernel_rfl) (by kernel_rfl) (by kernel_rfl) (by kernel_rfl) (fun _ _ _ h=>h) (Or.inl ⟨rfl,fun _ _=>rfl⟩) hq0 ?_
    simp only [ps]
    refine takeY (i:=2) (z:=17) (v:=(.slice (some ⟨g,0,none⟩) n cap)) rfl (by kernel_rfl) (by kernel_rfl) (by kernel_rfl) (by kernel_rfl) (fun _ _ _ h=>h) (Or.inl ⟨rfl,fun _ _=>rfl⟩) hq0 ?_
    simp only [ps]
    refine takeY (i:=3) (z:=17) (v:=(.int .i64 (a:Int))) rfl (by kernel_rfl) (by kernel_rfl) (by kernel_rfl) (by kernel_rfl) (fun _ _ _ h=>h) (Or.inl ⟨rfl,fun _ _=>rfl⟩) hq0 ?_
    simp only [ps]
    refine takeY (i:=4) (z:=17) (v:=(.int .i64 (O:Int))) rfl (by kernel_rfl) (by kernel_rfl) (by kernel_rfl) (by kernel_rfl) (fun _ _ _ h=>h) (Or.inl ⟨rfl,fun _ _=>rfl⟩) hq0 ?_
    simp only [ps]
    refine takeY (i:=5) (z:=17) (v:=(.int .i64 (pq:Int))) rfl (by kernel_rfl) (by kernel_rfl) (by kernel_rfl) (by kernel_rfl) (fun _ _ _ h=>h) (Or.inl ⟨rfl,fun W' _=>by go_simp <;> (rw [IntKind.wrap_i64]; omega)⟩) hq0 ?_
    simp only [ps]
    refine takeY (i:=6) (z:=17) (v:=(.slice (some ⟨g,0,none⟩) n cap)) rfl (by kernel_rfl) (by kernel_rfl) (by kernel_rfl) (by kernel_rfl) (fun _ _ _ h=>h) (Or.inl ⟨rfl,fun _ _=>rfl⟩) hq0 ?_
    simp only [ps]
    refine takeY (i:=7) (z:=17) (v:=(.int .i64 (a:Int))) rfl (by kernel_rfl) (by kernel_rfl) (by kernel_rfl) (by kernel_rfl) (fun _ _ _ h=>h) (Or.inl ⟨rfl,fun _ _=>rfl⟩) hq0 ?_
    simp only [ps]
    refine takeY (i:=8) (z:=17) (v:=(.int .i64 (O:Int))) rfl (by kernel_rfl) (by kernel_rfl) (by kernel_rfl) (by kernel_rfl) (fun _ _ _ h=>h) (Or.inl ⟨rfl,fun _ _=>rfl⟩) hq0 ?_
    simp only [ps]
    refine takeY (i:=9) (z:=17) (v:=(.int .i64 (pq:Int))) rfl (by kernel_rfl) (by kernel_rfl) (by kernel_rfl) (by kernel_rfl) (fun _ _ _ h=>h) (Or.inl ⟨rfl,fun W' _=>by go_simp <;> (rw [IntKind.wrap_i64]; omega)⟩) hq0 ?_
    simp only [ps]
    refine takeY (i:=10) (z:=17) (v:=(.pointer (some ⟨g,pq,none⟩))) rfl (by kernel_rfl) (by kernel_rfl) (by kernel_rfl) (by kernel_rfl) (fun _ _ _ h=>h) (Or.inl ⟨rfl,fun W' _=>by go_simp <;> (intro h; omega)⟩) hq0 ?_
    simp only [ps]
    refine takeZ (i:=11) (z:=17) (v:=_) rfl rfl (by kernel_rfl) (by kernel_rfl) (by kernel_rfl) (by kernel_rfl) (by kernel_rfl) (by kernel_rfl) (fun _ _ _ h=>h) (yieldsIf_cell rfl 3 _ rfl ⟨g,pq,none⟩ rfl (.int .i64 y) _ (fun W' hW'=>(show W'.cell? ⟨g,pq,none⟩=_ from (NU6.out.ext hW').cell (by omega)).trans (by rw [hvq])) Try.underlying3 rfl) hq0 ?_
    simp only [ps]
    refine takeY (i:=12) (z:=17) (v:=(.slice (some ⟨g,0,none⟩) n cap)) rfl (by kernel_rfl) (by kernel_rfl) (by kernel_rfl) (by kernel_rfl) (fun _ _ _ h=>h) (Or.inl ⟨rfl,fun _ _=>rfl⟩) hq0 ?_
    simp only [ps]
    refine takeY (i:=13) (z:=17) (v:=(.int .i64 (t:Int))) rfl (by kernel_rfl) (by kernel_rfl) (by kernel_rfl) (by kernel_rfl) (fun _ _ _ h=>h) (Or.inl ⟨rfl,fun _ _=>rfl⟩) hq0 ?_
    simp only [ps]
    refine takeY (i:=14) (z:=17) (v:=(.pointer (some ⟨g,t,none⟩))) rfl (by kernel_rfl) (by kernel_rfl) (by kernel_rfl) (by kernel_rfl) (fun _ _ _ h=>h) (Or.inl ⟨rfl,fun W' _=>by go_simp <;> (intro h; omega)⟩) hq0 ?_
    simp only [ps]
    refine takeZ (i:=15) (z:=17) (v:=_) rfl rfl (by kernel_rfl) (by kernel_rfl) (by kernel_rfl) (by kernel_rfl) (by kernel_rfl) (by kernel_rfl) (fun _ _ _ h=>h) (yieldsIf_cell rfl 3 _ rfl ⟨g,t,none⟩ rfl (.int .i64 x) _ (fun W' hW'=>(show W'.cell? ⟨g,t,none⟩=_ from (NU6.out.ext hW').cell (by omega)).trans (by rw [hvp])) Try.underlying3 rfl) hq0 ?_
    simp only [ps]
    refine takeY (i:=16) (z:=17) (v:=(.pointer (some ⟨g,t,none⟩))) rfl (by kernel_rfl) (by kernel_rfl) (by kernel_rfl) (by kernel_rfl) (fun _ _ _ h=>h) (Or.inl ⟨rfl,fun W' _=>by go_simp <;> (intro h; omega)⟩) hq0 ?_
    simp only [ps]
    refine runZl (z:=17) rfl rfl (by kernel_rfl) (fun K hK=>?_)
    have hce:=(NU6.out.ext hq0)
    have hc1:wd.cell? ⟨g,t,none⟩=some (.int .i64 (at0 l (t))):=hce.cell (by omega)
    have hf1:=hce.froz (t)
    go_simp
    refine hK.out _ _ ?_
    try simp only [ps]
    clear hK K hc1 hf1
    have hce2:=hce.set (p:=t) (by omega) (at0 l (pq))
    rw [hvq] at hce2
    have hq9:=(hq0.mut (fun k=>k=g)).setCell (p:=⟨g,t,none⟩) (.inl rfl) (.int .i64 y)
    refine tL 18 ((.pointer (some ⟨g,pq,none⟩))) rfl (Or.inl ⟨rfl,fun W' _=>by go_simp <;> (intro h; omega)⟩) trivial ?_
    simp only [ps]
    refine runL (i:=19) rfl rfl (by kernel_rfl) (fun K hK=>?_)
    have hc2:(wd.setCell ⟨g,t,none⟩ (.int .i64 y)).cell? ⟨g,pq,none⟩=some (.int .i64 (at0 (l.set (t) y) (pq))):=hce2.cell (by simp; omega)
    have hf2:=hce2.froz (pq)
    go_simp
    refine hK.out _ _ trivial (fun _=>?_)
    try simp only [ps]
    clear hK K hc2 hf2
    refine wpAnyH_done (by kernel_rfl) ?_ _
    have hce3:=hce2.set (p:=pq) (by simp; omega) (at0 l (t))
    rw [hvp] at hce3
    have NU3:=Lib.hid (show Nums _ g (swl l (t) (pq)) from by unfold swl; rw [hvp,hvq]; exact hce3)
    have MU3:=Lib.hid (hq9.setCell (p:=⟨g,pq,none⟩) (.inl rfl) (.int .i64 x))
    clear hce hce2 hce3 hq9 hq0 hqx
    generalize (wd.setCell ⟨g,t,none⟩ (.int .i64 y)).setCell ⟨g,pq,none⟩ (.int .i64 x)=wm at *
    have SO2:=Lib.hid (show bpR a L M k (t+1) (Go.Sort.xorNext r,(swl l t pq).toArray)=D from by
     rw [← SO.out,BO.out,swl_arr l (by omega) (by omega),hpq])
    clear hvp hvq BO SO
    have hq9:=(MU3.out.heap (heap_lt HQ6.out) (fun hc=>hqg (show q=g from hc))).trans HQ6.out
    have HQ9:=Lib.hid hq9
    have MU9:=Lib.hid (MU6.out.trans MU3.out)
    clear hq9
    have hup:IntKind.i64.wrap ((t:Int)+1)=((t+1:Nat):Int):=by rw [IntKind.wrap_i64]; omega
    go_wp2_with fail
    go_roundw
    case rel=>exact ⟨t+1,k,Go.Sort.xorNext r,swl l t pq,by go_num,by omega,by rw [HR'.out]; exact HQ9.out,NU3.out,by rw [swl_len]; exact hln,SO2.out,MU9.out⟩
    case measure=>simp [intOf] <;> omega
end Go.Proofs.Ytamnmjckhicapaa
