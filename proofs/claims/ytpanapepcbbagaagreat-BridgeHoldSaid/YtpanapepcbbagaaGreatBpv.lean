/- Part 22 of what BridgeHold stands on. No statement is proved here. -/
import Derived.Great.BuildSlice
import Derived.Maps.AppendAt
import Derived.Laws.ComplexArith
import Derived.ChangeSlices
import Derived.Laws.AppendOwn
import Derived.Laws.CopyRow
import Derived.Deep.WholeRow
import Derived.Deep.Light
import Derived.BigQuiet
import Derived.OwnWalk
import Derived.Deep.RegionLawGrows
import Derived.Deep.RegionHeld3
import Derived.StillTailTactics
import Derived.Deep.AppendLies
import Derived.Laws.AppendOwnNone
import Derived.Deep.OwnRows
import Derived.Sort.AssemblyPlain
import Derived.Deep.DeepCutAuto
import Derived.Test.YtpanapepcbbagaaGreatBpu
set_option linter.unusedVariables false
set_option linter.unusedSimpArgs false
set_option maxRecDepth 100000
set_option maxHeartbeats 8000000
namespace Go.Proofs.YtpanapepcbbagaaGreat
open Go.RowKit Go.BigFrame Go.WideShapes Go.ChangeShapes Go.Deep
theorem BrG.there{w:World}{F:Nat→Prop}{X g:Nat}{B:Br}(h:BrG w F X g B){k:Nat}(hk:k<B.np):w.there g (k*89) 89:=by
 obtain⟨h1,h2,cap,cur,s2,s3,a,b,c,d,_⟩:=h
 have:(k+1)*89≤cap*89:=Nat.mul_le_mul_right _ (by omega)
 exact fun j hj=>⟨by rw[cell_of_row _ _ _ _ _ _ b,Array.getElem?_eq_getElem (by omega)];rfl,frozen_of_row _ _ _ _ _ b⟩
theorem migF_ok{B:Br}{k:Nat}(ho:B.ok)(hk:k<B.np):(migF B k).2.ok:=by
 have hL:(migListen B k).ok:=((ho.setB hk 37 _ rfl).setB hk 38 _ rfl).setI hk 16 .i64 _ rfl (by decide)
 have hB:(migBegin B k).ok:=(((ho.setB hk 30 _ rfl).setB hk 45 _ rfl).setI hk 9 .i64 _ rfl (by decide)).setI hk 16 .i64 _ rfl (by decide)
 have hY:(migYield B k).ok:=((ho.setB hk 45 _ rfl).setI hk 9 .i64 _ rfl (by decide)).setI hk 16 .i64 _ rfl (by decide)
 unfold migF
 split<;>(try split)<;>(try split)<;>(try split)<;>first|exact ho|exact hL|exact hB|exact hY
theorem upd_hd(B:Br)(j:Nat)(v:Nat→Value):∀n,(B.upd j v n).hd=B.hd
 | 0=>rfl
 | n+1=>upd_hd B j v n
theorem upd_rest(B:Br)(j:Nat)(v:Nat→Value):∀n,(B.upd j v n).no=B.no∧(B.upd j v n).os=B.os∧(B.upd j v n).nf=B.nf∧(B.upd j v n).fl=B.fl
 | 0=>⟨rfl,rfl,rfl,rfl⟩
 | n+1=>upd_rest B j v n
theorem pI_port{B:Br}{k j:Nat}(hj:j<89):pI (port B.ps k) j=B.gi k j:=by
 unfold pI Br.gi
 rw[port_at hj]
 rcases B.ps[k*89+j]? with _|v
 ·rfl
 ·cases v<;>rfl
theorem pB_port{B:Br}{k j:Nat}(hj:j<89):pB (port B.ps k) j=B.gb k j:=by
 unfold pB Br.gb
 rw[port_at hj]
 rcases B.ps[k*89+j]? with _|v
 ·rfl
 ·cases v<;>rfl
theorem ty_nil:Typed [] []:=⟨rfl,fun j k h=>by cases h⟩
theorem ty_cons{l:List (Option IntKind)}{L:List Value}{K:IntKind}{z:Int}(h:Typed l L)(hz:(Lit.int K z).wf=true):Typed (some K :: l) (.int K z :: L):=⟨by simp[h.1],fun j k hj=>by
 cases j with
 | zero =>
  obtain rfl:some K=k:=by simpa using hj
  exact⟨.int K z,rfl,z,rfl,hz⟩
 | succ n=>exact h.2 n k hj⟩
theorem ty_vec{a b c d e:Int}(h1:(Lit.int .u64 a).wf=true)(h2:(Lit.int .u32 b).wf=true)(h3:(Lit.int .u64 c).wf=true)(h4:(Lit.int .u16 d).wf=true)(h5:(Lit.int .u16 e).wf=true):
    Typed [some .u64,some .u32,some .u64,some .u16,some .u16] [.int .u64 a,.int .u32 b,.int .u64 c,.int .u16 d,.int .u16 e]:=ty_cons (ty_cons (ty_cons (ty_cons (ty_cons ty_nil h5) h4) h3) h2) h1
theorem ty_times{a b c d:Int}(h1:(Lit.int .i64 a).wf=true)(h2:(Lit.int .i64 b).wf=true)(h3:(Lit.int .i64 c).wf=true)(h4:(Lit.int .i64 d).wf=true):
    Typed [some .i64,some .i64,some .i64,some .i64] [.int .i64 a,.int .i64 b,.int .i64 c,.int .i64 d]:=ty_cons (ty_cons (ty_cons (ty_cons ty_nil h4) h3) h2) h1
theorem ty_set68{L vs:List Value}(h:Typed PL L)(hv:Typed [some .u64,some .u32,some .u64,some .u16,some .u16] vs):Typed PL (setL L 68 vs):=by
 have hz:vs.length=5:=hv.1
 exact Typed.setL h (j:=68) (by rw[hz];exact(by decide:68+5≤PL.length)) (by rw[hz];exact hv)
theorem ty_set78{L vs:List Value}(h:Typed PL L)(hv:Typed [some .i64,some .i64,some .i64,some .i64] vs):Typed PL (setL L 78 vs):=by
 have hz:vs.length=4:=hv.1
 exact Typed.setL h (j:=78) (by rw[hz];exact(by decide:78+4≤PL.length)) (by rw[hz];exact hv)
theorem ty_ask{L:List Value}(h:Typed PL L):Typed PL (iask L):=tset_b (tset_b h 43 _ rfl) 44 _ rfl
theorem ty_prop{L:List Value}(h:Typed PL L)(b:Bool):Typed PL (iprop b L):=by
 cases b
 ·exact h
 ·exact tset_b h 33 _ rfl
theorem ty_agr{L:List Value}(h:Typed PL L)(b:Bool):Typed PL (iagr b L):=by
 cases b
 ·exact tset_b h 23 _ rfl
 ·exact tset_b (tset_b h 23 _ rfl) 34 _ rfl
theorem ty_chg{L:List Value}(h:Typed PL L)(a b:Bool):Typed PL (ichg a b L):=tset_b (tset_b h 39 _ rfl) 40 _ rfl
theorem ty_inf{L:List Value}(h:Typed PL L)(b:Bool):Typed PL (iinf b L):=by
 cases b
 ·exact h
 ·exact tset_b (tset_b h 24 _ rfl) 23 _ rfl
theorem ty_oth{L:List Value}(h:Typed PL L)(b:Bool):Typed PL (ioth b L):=by
 cases b
 ·exact h
 ·exact tset_b h 41 _ rfl
theorem waits_wf{L:List Value}(hR:TimR L):(Lit.int .i64 (waitsV (pI L 64) (pI L 65) (pI L 66))).wf=true:=by
 obtain⟨r1,r2,r3,r4,r5,r6,-,-⟩:=hR
 have:0≤waitsV (pI L 64) (pI L 65) (pI L 66)∧waitsV (pI L 64) (pI L 65) (pI L 66)≤200000:=by
  unfold waitsV
  split<;>omega
 simp[Lit.wf,IntKind.min,IntKind.max,IntKind.signed,IntKind.bits]
 omega
theorem ty_sup{L:List Value}(hT:Typed PL L)(hR:TimR L)(rst:Bool):Typed PL (hearN 0 rst L):=(ty_ask (tset_i (tset_i (ty_set78 (ty_set68 (tset_b (ty_agr ((tset_b (ty_chg (ty_prop (tset_b (tset_b hT 23 _ rfl) 34 _ rfl) _) _ _) 22 _ rfl)) _) 47 _ rfl) (ty_vec (tpW hT 59 rfl) (tpW hT 60 rfl) (tpW hT 61 rfl) (tpW hT 62 rfl) (tpW hT 63 rfl))) (ty_times (tpW hT 64 rfl) (tpW hT 65 rfl) (tpW hT 66 rfl) (tpW hT 67 rfl))) 11 .i64 _ rfl (waits_wf hR)) 86 .i64 _ rfl (by decide)))
theorem ty_rep{L:List Value}(hT:Typed PL L)(hR:TimR L)(rst:Bool):Typed PL (hearN 1 rst L):=(tset_i (ty_agr (ty_chg (ty_prop hT _) _ _) _) 11 .i64 _ rfl (waits_wf hR))
theorem ty_hear{L:List Value}(hT:Typed PL L)(hR:TimR L)(rst:Bool)(n:Nat):Typed PL (hearN n rst L):=by
 match n with
 | 0=>exact ty_sup hT hR rst
 | 1=>exact ty_rep hT hR rst
 | 2=>exact ty_inf hT _
 | 3=>exact ty_chg (ty_agr hT _) _ _
 | n+4=>exact ty_oth hT _
theorem ty_take{L:List Value}(hT:Typed PL L)(hR:TimR L)(rst:Bool):Typed PL (itakeL rst L):=tset_i (tset_b (ty_hear hT hR rst _) 36 _ rfl) 18 .i64 2 rfl (by decide)
theorem ty_dis{L:List Value}(hT:Typed PL L):Typed PL (idis L):=(tset_i (ty_ask (tset_i (tset_i (tset_b (tset_b (tset_b (tset_b (tset_b hT 36 _ rfl) 34 _ rfl) 33 _ rfl) 22 _ rfl) 23 _ rfl) 11 .i64 _ rfl (by decide)) 86 .i64 _ rfl (by decide))) 18 .i64 _ rfl (by decide))
theorem ty_age{L:List Value}(hT:Typed PL L):Typed PL (iage L):=(tset_i (ty_ask (tset_i hT 86 .i64 _ rfl (by decide))) 18 .i64 _ rfl (by decide))
theorem ty_upd{L:List Value}(hT:Typed PL L):Typed PL (iupdL L):=(tset_i (tset_b (tset_i (tset_b (ty_set78 (ty_set68 (tset_b (tset_b (tset_b (tset_b hT 34 _ rfl) 33 _ rfl) 23 _ rfl) 47 _ rfl) (ty_vec (tpW hT 73 rfl) (tpW hT 74 rfl) (tpW hT 75 rfl) (tpW hT 76 rfl) (tpW hT 77 rfl))) (ty_times (tpW hT 82 rfl) (tpW hT 83 rfl) (tpW hT 84 rfl) (tpW hT 85 rfl))) 50 _ rfl) 86 .i64 _ rfl (by decide)) 31 _ rfl) 18 .i64 _ rfl (by decide))
theorem infL_typed{L:List Value}(hT:Typed PL L)(hR:TimR L)(rst:Bool):Typed PL (infL rst L).2:=by
 unfold infL
 rcases irowL_cases L with h|h|h|h|h<;>rw[h]
 ·exact hT
 ·exact ty_dis hT
 ·exact ty_age hT
 ·exact ty_upd hT
 ·exact ty_take hT hR rst
theorem port_setPort{B:Br}{k:Nat}{l:List Value}(hl:l.length=89)(hk:k*89+89≤B.ps.length):port (B.setPort k l).ps k=l:=by
 apply List.ext_getElem?
 intro i
 by_cases hi:i<89
 ·rw[port_at hi,setPort_at hl hk,if_pos (by omega)]
  congr 1;omega
 ·rw[List.getElem?_eq_none (by simp[port];omega),List.getElem?_eq_none (by omega)]
theorem gi_setPort{B:Br}{k j:Nat}{l:List Value}(hl:l.length=89)(hk:k*89+89≤B.ps.length)(hj:j<89):(B.setPort k l).gi k j=pI l j:=by
 rw[←pI_port (k:=k) hj,port_setPort hl hk]
theorem len_setPort{B:Br}{k:Nat}{l:List Value}(hl:l.length=89)(hk:k*89+89≤B.ps.length):(B.setPort k l).ps.length=B.ps.length:=by
 simp[Br.setPort,hl];omega
theorem setPort_ok{B:Br}(ho:B.ok){k:Nat}(hk:k<B.np){l:List Value}(hl:Typed PL l):(B.setPort k l).ok:=by
 have h89:=len89 ho hk
 obtain⟨a,b,c,d⟩:=ho
 refine⟨a,?_,c,d⟩
 refine(rowTyped_iff (l:=PL)).2 ⟨?_,fun i hi j cc hj=>?_⟩
 ·rw[len_setPort (tpL hl) h89]
  exact b.1
 ·have hj89:j<89:=(List.getElem?_eq_some_iff.1 hj).1
  have hb:=((rowTyped_iff (l:=PL)).1 b).2 i hi j cc hj
  rw[show PL.length=89 from rfl]at hb ⊢
  rw[setPort_at (tpL hl) h89]
  by_cases e:i=k
  ·subst e
   rw[if_pos (by omega)]
   obtain⟨v,hv,hc⟩:=hl.2 j cc hj
   exact⟨v,by rw[←hv];congr 1;omega,hc⟩
  ·rw[if_neg (by omega)]
   exact hb
theorem infF_ok{B:Br}(ho:B.ok){k:Nat}(hk:k<B.np)(hR:TimR (port B.ps k)):(infF B k).2.ok:=setPort_ok ho hk (infL_typed (br_typed ho hk) hR _)
theorem psel_rest(B:Br):∀n,(psel B n).no=B.no∧(psel B n).os=B.os∧(psel B n).nf=B.nf∧(psel B n).fl=B.fl|0=>⟨rfl,rfl,rfl,rfl⟩|n+1=>psel_rest B n
theorem selB2_ok{C:Br}(ho:C.ok)(hn:C.np<1000)(hR:∀k,k<C.np→0≤C.gi k 78∧C.gi k 78≤65535):(selB2 C).ok:=by
 have ok1:=selB1_ok ho hn
 have hq:=rtL_typed ok1 (a:=(selB1 C).hi 12) (by rw[selB1_12 ho];exact rootF_rg _ _) hR
 unfold selB2
 rw[selB1_12 ho]at hq
 exact sethr_ok ok1 (j:=13) (m:=4) (by decide) hq.2 hq.1
theorem selF_ok{B:Br}(ho:B.ok)(hn:B.np<1000)(hR:∀k,k<B.np→0≤B.gi k 78∧B.gi k 78≤65535):(selF B).2.ok:=by
 have okN:=noR_ok ho (Nat.le_refl B.np)
 have npN:(noR B B.np).np=B.np:=upd_np B 43 _ _
 have ok2:(selB2 (noR B B.np)).ok:=selB2_ok okN (by rw[npN];exact hn) (fun k hk=>by
  rw[noR_gi ho (by decide) (by decide)]
  exact hR k (by rw[←npN];exact hk))
 unfold selF
 split
 ·exact psel_ok ok2 B.np (by rw[show(selB2 (noR B B.np)).np=B.np from npN];exact Nat.le_refl _)
 ·exact okN
theorem tcp_hd(B:Br)(k:Nat):∀n,(tcp B k n).hd=B.hd
 | 0=>rfl
 | n+1=>by
  unfold tcp
  split
  ·exact tcp_hd B k n
  ·exact tcp_hd B k n
theorem tcp_rest(B:Br)(k:Nat):∀n,(tcp B k n).no=B.no∧(tcp B k n).os=B.os∧(tcp B k n).nf=B.nf∧(tcp B k n).fl=B.fl
 | 0=>⟨rfl,rfl,rfl,rfl⟩
 | n+1=>by
  unfold tcp
  split
  ·exact tcp_rest B k n
  ·exact tcp_rest B k n
theorem tpass_ok{B:Br}(ho:B.ok){k:Nat}(hk:k<B.np):(tpass B k).ok:=tcp_ok (tpass0_ok ho hk) k B.np (Nat.le_refl _)
theorem tpass_np(B:Br)(k:Nat):(tpass B k).np=B.np:=tcp_np _ _ _
theorem tforget_ok{B:Br}(ho:B.ok){k:Nat}(hk:k<B.np):(tforget B k).ok:=((((ho.setB hk 39 false rfl).setB (k:=k) hk 41 false rfl).setB (k:=k) hk 40 false rfl).setB (k:=k) hk 49 false rfl).setI (k:=k) hk 21 .i64 1 rfl (by decide)
theorem tack_ok{B:Br}(ho:B.ok){k:Nat}(hk:k<B.np):(tack B k).ok:=(ho.setI hk 13 .i64 0 rfl (by decide)).setB (k:=k) hk 40 false rfl
theorem tspread_ok{B:Br}(ho:B.ok){k:Nat}(hk:k<B.np)(hT:TR (B.hi 2) (B.hi 3) (B.hi 4) (B.hi 5)):(tspread B k).ok :=
 ((tbegin_ok ho hk hT).setB (k:=k) (by rw[tbegin_np];exact hk) 25 true rfl).setB (k:=k) (by show k<(tbegin B k).np;rw[tbegin_np];exact hk) 49 false rfl
theorem flush_ok{B:Br}(ho:B.ok){k:Nat}(hk:k<1000):(B.flush k).ok:=by
 refine⟨ho.hd,ho.ps,ho.os,?_⟩
 obtain⟨h1,h2⟩:=rowTyped_iff.1 ho.fl
 simp only[List.length_singleton,Nat.mul_one]at h1 h2
 refine rowTyped_iff.2 ⟨?_,?_⟩
 ·show(B.fl++[Value.int IntKind.i64 k]).length=(B.nf+1)*1
  simp[h1]
 ·intro i hi j c hj
  have hj0:j=0:=by
   have:=(List.getElem?_eq_some_iff.1 hj).1
   simpa using this
  subst hj0
  obtain rfl:some IntKind.i64=c:=by simpa using hj
  show ∃v,(B.fl++[Value.int IntKind.i64 k])[i*1+0]?=some v∧cellOk (some IntKind.i64) v
  have hi':i<B.nf+1:=hi
  by_cases e:i<B.nf
  ·obtain⟨v,hv,hc⟩:=h2 i e 0 (some IntKind.i64) rfl
   refine⟨v,?_,hc⟩
   rw[Nat.mul_one,Nat.add_zero,List.getElem?_append_left (by rw[h1];exact e)]
   simpa using hv
  ·have:i=B.nf:=by omega
   subst this
   refine⟨.int .i64 k,by simp[h1],_,rfl,?_⟩
   simp[Lit.wf,IntKind.min,IntKind.max,IntKind.signed,IntKind.bits]
   omega
theorem tleave_ok{B:Br}(ho:B.ok){k:Nat}(hk:k<B.np):(tleave B k).ok:=(((ho.setB hk 25 true rfl).setB (k:=k) hk 48 false rfl).setI (k:=k) hk 13 .i64 0 rfl (by decide)).setI (k:=k) hk 21 .i64 0 rfl (by decide)
theorem tactiv_ok{B:Br}(ho:B.ok){k:Nat}(hk:k<B.np)(hT:TR (B.hi 2) (B.hi 3) (B.hi 4) (B.hi 5)):(tactiv B k).ok:=by
 have h1:(tcp (tbegin B k) k B.np).ok:=tcp_ok (tbegin_ok ho hk hT) k B.np (by rw[tbegin_np];exact Nat.le_refl _)
 have h2:k<(tcp (tbegin B k) k B.np).np:=by rw[tcp_np,tbegin_np];exact hk
 exact(h1.setB h2 31 true rfl).setI (k:=k) h2 21 .i64 2 rfl (by decide)
theorem tbegin_nf(B:Br)(k:Nat):(tbegin B k).nf=B.nf:=by
 unfold tbegin
 split
 ·split<;>rfl
 ·rfl
theorem tcp_nf(B:Br)(k n:Nat):(tcp B k n).nf=B.nf:=(tcp_rest B k n).2.2.1
theorem topN_keeps{B:Br}(ho:B.ok){k:Nat}(hk:k<B.np)(hT:TR (B.hi 2) (B.hi 3) (B.hi 4) (B.hi 5)):(topN B k).2.ok∧(topN B k).2.np=B.np∧(topN B k).2.hd=B.hd∧(topN B k).2.nf=B.nf:=by
 have f:(tforget B k).ok∧(tforget B k).np=B.np∧(tforget B k).hd=B.hd∧(tforget B k).nf=B.nf:=⟨tforget_ok ho hk,rfl,rfl,rfl⟩
 have b0:B.ok∧B.np=B.np∧B.hd=B.hd∧B.nf=B.nf:=⟨ho,rfl,rfl,rfl⟩
 have l:(tleave B k).ok∧(tleave B k).np=B.np∧(tleave B k).hd=B.hd∧(tleave B k).nf=B.nf:=⟨tleave_ok ho hk,rfl,rfl,rfl⟩
 have a:(tactiv B k).ok∧(tactiv B k).np=B.np∧(tactiv B k).hd=B.hd∧(tactiv B k).nf=B.nf :=
  ⟨tactiv_ok ho hk hT,(tcp_np _ _ _).trans (tbegin_np B k),(tcp_hd _ _ _).trans (tbegin_hd B k),(tcp_nf _ _ _).trans (tbegin_nf B k)⟩
 have p:(tpass B k).ok∧(tpass B k).np=B.np∧(tpass B k).hd=B.hd∧(tpass B k).nf=B.nf:=⟨tpass_ok ho hk,tpass_np B k,tcp_hd _ _ _,tcp_nf _ _ _⟩
 have okb:=tbegin_ok ho hk hT
 have hkb:k<(tbegin B k).np:=by rw[tbegin_np];exact hk
 have q:(tpass (tbegin B k) k).ok∧(tpass (tbegin B k) k).np=B.np∧(tpass (tbegin B k) k).hd=B.hd∧(tpass (tbegin B k) k).nf=B.nf :=
  ⟨tpass_ok okb hkb,(tpass_np _ _).trans (tbegin_np B k),(tcp_hd _ _ _).trans (tbegin_hd B k),(tcp_nf _ _ _).trans (tbegin_nf B k)⟩
 have s:(tspread B k).ok∧(tspread B k).np=B.np∧(tspread B k).hd=B.hd∧(tspread B k).nf=B.nf:=⟨tspread_ok ho hk hT,tbegin_np B k,tbegin_hd B k,tbegin_nf B k⟩
 have c:(tack B k).ok∧(tack B k).np=B.np∧(tack B k).hd=B.hd∧(tack B k).nf=B.nf:=⟨tack_ok ho hk,rfl,rfl,rfl⟩
 unfold topN
 by_cases h0:B.gi k 21=0
 ·rw[if_pos h0]
  cases B.gb k 28
  ·exact b0
  ·exact f
 rw[if_neg h0]
 by_cases h1:B.gi k 21=1
 ·rw[if_pos h1]
  rcases act1_cases B k with ha|ha|ha|ha<;>rw[ha]
  ·exact b0
  ·exact a
  ·exact l
  ·exact f
 rw[if_neg h1]
 by_cases h2:B.gi k 21=2
 ·rw[if_pos h2]
  rcases act2_cases B k with ha|ha|ha|ha|ha|ha<;>rw[ha]
  ·exact b0
  ·exact f
  ·exact q
  ·exact p
  ·exact s
  ·exact c
 rw[if_neg h2]
 exact b0
theorem topF_keeps{B:Br}(ho:B.ok){k:Nat}(hk:k<B.np)(hn:B.np<1000)(hT:TR (B.hi 2) (B.hi 3) (B.hi 4) (B.hi 5)):(topF B k).2.ok∧(topF B k).2.np=B.np∧(topF B k).2.hd=B.hd∧(topF B k).2.nf≤B.nf+1:=by
 unfold topF
 split
 ·exact⟨(flush_ok ho (by omega)).setB (k:=k) hk 25 false rfl,rfl,rfl,Nat.le_refl _⟩
 ·obtain⟨a,b,c,d⟩:=topN_keeps ho hk hT
  exact⟨a,b,c,by omega⟩
theorem rxDisc_ok{B:Br}{k:Nat}(ho:B.ok)(hk:k<B.np):(rxDisc B k).ok:=((((((ho.setB hk 35 false rfl).setB hk 37 false rfl).setB hk 38 false rfl).setB hk 36 false rfl).setI hk 6 .i64 3 rfl (by decide)).setI hk 15 .i64 0 rfl (by decide))
theorem rxRcvR_ok{B:Br}{k:Nat}(ho:B.ok)(hk:k<B.np):(rxRcvR B k).ok:=((((((ho.setB hk 37 true rfl).setB hk 32 false rfl).setB hk 35 false rfl).setB hk 36 true rfl).setI hk 6 .i64 3 rfl (by decide)).setI hk 15 .i64 1 rfl (by decide))
theorem rxRcvS_ok{B:Br}{k:Nat}(ho:B.ok)(hk:k<B.np):(rxRcvS B k).ok:=((((((ho.setB hk 38 true rfl).setB hk 32 false rfl).setB hk 35 false rfl).setB hk 36 true rfl).setI hk 6 .i64 3 rfl (by decide)).setI hk 15 .i64 1 rfl (by decide))
theorem rxF_ok{B:Br}{k:Nat}(ho:B.ok)(hk:k<B.np):(rxF B k).2.ok:=by
 unfold rxF rxRcv
 split
 ·exact rxDisc_ok ho hk
 ·split
  ·split
   ·exact rxRcvR_ok ho hk
   ·exact rxRcvS_ok ho hk
  ·exact ho
theorem BrG.thereAt{w:World}{F:Nat→Prop}{X g:Nat}{B:Br}(h:BrG w F X g B){k j n:Nat}(hk:k<B.np)(hj:j+n≤89):w.there g (k*89+j) n:=fun i hi=>by
 have:=h.there hk (j+i) (by omega)
 rw[show k*89+(j+i)=k*89+j+i by omega]at this
 exact this
theorem wpList_store_midN{P:Program}{ops:Array Oper}{rest:List Oper}{op:Oper}{a:Act}{w:World}{Q:Exit→Act→World→Prop}(hgd:op.guard=none)(hdst:op.dst=none)(ty:TypeId)(x y:Operand)(ho:op.op=.store ty x y)(b o:Nat)(cells:Array Value)(hx:a.eval x=.pointer (some ⟨b,o,none⟩))(hy:a.eval y=.agg cells)(ht:w.there b o cells.size)(hi:(P.info? ty).map (·.size)=some cells.size)(h1:cells.all (·.oneCell')=true)(h:∀w':World,w'=w.setCells b o cells.toList→wpList P ops Q rest a w'):wpList P ops Q (op :: rest) a w :=
 wpList_store_mid hgd ty x y ho b o cells hx hy ht hi h1 (by rw[show a.put op.dst undef=a by rw[hdst];rfl];exact h _ rfl)
theorem PL_msg(i:Nat)(hi:i<17):PL[51+i]?=ML[i]?:=by
 match i,hi with
 | 0,_=>exact rfl
 | 1,_=>exact rfl
 | 2,_=>exact rfl
 | 3,_=>exact rfl
 | 4,_=>exact rfl
 | 5,_=>exact rfl
 | 6,_=>exact rfl
 | 7,_=>exact rfl
 | 8,_=>exact rfl
 | 9,_=>exact rfl
 | 10,_=>exact rfl
 | 11,_=>exact rfl
 | 12,_=>exact rfl
 | 13,_=>exact rfl
 | 14,_=>exact rfl
 | 15,_=>exact rfl
 | 16,_=>exact rfl
 | n+17,h=>exact absurd h (by omega)
def rxTook(B:Br)(k:Nat)(m:List Value):Br:=(B.setr k 51 m).setp k 35 (.bool true)
def takeF(B:Br)(i:Int)(m:List Value):Bool × Br :=
 if 0≤i∧i.toNat<B.np then if(!B.gb i.toNat 2 || B.gb i.toNat 35 || ((mi m 0 == 2) && !B.hb 1))=true then(false,B)else(true,rxTook B i.toNat m)else(false,B)
theorem rxMsg_ok{B:Br}(ho:B.ok){k:Nat}(hk:k<B.np){m:List Value}(hm:Typed ML m):(B.setr k 51 m).ok:=by
 have hz:m.length=17:=hm.1
 refine ho.setr hk (by omega) (fun i v hv c hc=>?_)
 have hi:i<17:=by
  have:=(List.getElem?_eq_some_iff.1 hv).1
  omega
 rw[PL_msg i hi]at hc
 obtain⟨u,hu,hcu⟩:=hm.2 i c hc
 rw[hv]at hu
 cases hu
 exact hcu
theorem rxTook_ok{B:Br}(ho:B.ok){k:Nat}(hk:k<B.np){m:List Value}(hm:Typed ML m):(rxTook B k m).ok :=
 (rxMsg_ok ho hk hm).setB (k:=k) hk 35 true rfl
theorem takeF_ok{B:Br}(ho:B.ok)(i:Int){m:List Value}(hm:Typed ML m):(takeF B i m).2.ok:=by
 unfold takeF
 split
 ·rename_i hi
  split
  ·exact ho
  ·exact rxTook_ok ho hi.2 hm
 ·exact ho
theorem rxt_d(w:World)(F:Nat→Prop)(X g:Nat)(B:Br)(h:BrG w F X g B)(ho:B.ok)(m:List Value)(hm:Typed ML m)(k:Nat)(hk:k<B.np)(hk2:k<1000)(e2:B.gb k 2=true)(e35:B.gb k 35=false)(em:(mi m 0 == 2)=false):Calls Tryz.prog 29 #[.pointer (some ⟨X,0,none⟩),.int .i64 k,.agg m.toArray] w (Stepped w F X g (true,rxTook B k m)):=by
 obtain⟨hX,hg,hne⟩:=h.lt
 obtain⟨cap,c17,hc1,hc2⟩:=h.cell17 ho
 have p2:=(h.cellg (i:=k*89+2) (lt89 hk (by decide))).trans (ho.gb hk 2 rfl)
 have p35:=(h.cellg (i:=k*89+35) (lt89 hk (by decide))).trans (ho.gb hk 35 rfl)
 have q1:=(h.cellX ho (i:=1) (by omega)).trans (ho.hb 1 rfl)
 have m0:=hm.gi 0 rfl
 rw[e2]at p2
 rw[e35]at p35
 have hf:=h.frozen
 have H:=hD h
 have HTM:=hD hm
 have hmn:=hD (show m.length=17 from hm.1)
 have hmi:=hD (show(Tryz.prog.info? 46).map (·.size)=some m.toArray.size by rw[List.size_toArray,hmn.out];exact size_msg)
 have hmo:=hD (all_oneCell_toArray hm.one)
 clear h hm e2 e35
 go_enter Tryz.func29,Tryz.ntmps29
 go_wp2_with (first|fail|((with_reducible refine at_load 46 ?_);refine wpList_load_row rfl 46 _ rfl _ rfl 46 m.toArray (0,0) _ (heap_alloc_new _ _) Tryz.underlying46 rfl hmi.out ?_)|((with_reducible refine at_store 46 ?_);refine wpList_store_midN rfl rfl 46 _ _ rfl g (k*89+51) m.toArray rfl rfl (by rw[List.size_toArray];exact((H.out.alloc _).thereAt hk (by rw[hmn.out];decide))) hmi.out hmo.out ?_;intro w5 hw5;have hB5:BrG w5 F X g (B.setr k 51 m):=(by rw[hw5];exact(H.out.alloc _).setr hk (j:=51) (by rw[hmn.out];decide));have hM5:Mut F w w5:=(by rw[hw5];exact Mut.setCells (.inl H.out.F2) _ _ ((Mut.refl F w).alloc _));have HB5:=hD hB5;have HM5:=hD hM5;have p35x:=(HB5.out.cellg (i:=k*89+35) (lt89 (N:=B.np) hk (by decide))).trans ((rxMsg_ok ho hk HTM.out).gb (k:=k) hk 35 rfl);have hf5:=HB5.out.frozen;obtain⟨cap5,c17x,hc5,hd5⟩:=HB5.out.cell17 (rxMsg_ok ho hk HTM.out);simp only[np_setr]at c17x hc5;clear hw5 hB5 hM5 p2 p35 q1 c17 hf))
 go_ret
 exact⟨rfl,HB5.out.setp (k:=k) (j:=35) hk (by decide) _,HM5.out.setCell (.inl HB5.out.F2) _⟩
theorem rxt_e(w:World)(F:Nat→Prop)(X g:Nat)(B:Br)(h:BrG w F X g B)(ho:B.ok)(m:List Value)(hm:Typed ML m)(k:Nat)(hk:k<B.np)(hk2:k<1000)(e2:B.gb k 2=true)(e35:B.gb k 35=false)(em:mi m 0=2)(er:B.hb 1=true):Calls Tryz.prog 29 #[.pointer (some ⟨X,0,none⟩),.int .i64 k,.agg m.toArray] w (Stepped w F X g (true,rxTook B k m)):=by
 obtain⟨hX,hg,hne⟩:=h.lt
 obtain⟨cap,c17,hc1,hc2⟩:=h.cell17 ho
 have p2:=(h.cellg (i:=k*89+2) (lt89 hk (by decide))).trans (ho.gb hk 2 rfl)
 have p35:=(h.cellg (i:=k*89+35) (lt89 hk (by decide))).trans (ho.gb hk 35 rfl)
 have q1:=(h.cellX ho (i:=1) (by omega)).trans (ho.hb 1 rfl)
 have m0:=hm.gi 0 rfl
 rw[e2]at p2
 rw[e35]at p35
 rw[em]at m0
 rw[er]at q1
 have hf:=h.frozen
 have H:=hD h
 have HTM:=hD hm
 have hmn:=hD (show m.length=17 from hm.1)
 have hmi:=hD (show(Tryz.prog.info? 46).map (·.size)=some m.toArray.size by rw[List.size_toArray,hmn.out];exact size_msg)
 have hmo:=hD (all_oneCell_toArray hm.one)
 clear h hm e2 e35 em er
 go_enter Tryz.func29,Tryz.ntmps29
 go_wp2_with (first|fail|((with_reducible refine at_load 46 ?_);refine wpList_load_row rfl 46 _ rfl _ rfl 46 m.toArray (0,0) _ (heap_alloc_new _ _) Tryz.underlying46 rfl hmi.out ?_)|((with_reducible refine at_store 46 ?_);refine wpList_store_midN rfl rfl 46 _ _ rfl g (k*89+51) m.toArray rfl rfl (by rw[List.size_toArray];exact((H.out.alloc _).thereAt hk (by rw[hmn.out];decide))) hmi.out hmo.out ?_;intro w5 hw5;have hB5:BrG w5 F X g (B.setr k 51 m):=(by rw[hw5];exact(H.out.alloc _).setr hk (j:=51) (by rw[hmn.out];decide));have hM5:Mut F w w5:=(by rw[hw5];exact Mut.setCells (.inl H.out.F2) _ _ ((Mut.refl F w).alloc _));have HB5:=hD hB5;have HM5:=hD hM5;have p35x:=(HB5.out.cellg (i:=k*89+35) (lt89 (N:=B.np) hk (by decide))).trans ((rxMsg_ok ho hk HTM.out).gb (k:=k) hk 35 rfl);have hf5:=HB5.out.frozen;obtain⟨cap5,c17x,hc5,hd5⟩:=HB5.out.cell17 (rxMsg_ok ho hk HTM.out);simp only[np_setr]at c17x hc5;clear hw5 hB5 hM5 p2 p35 q1 c17 hf))
 go_ret
 exact⟨rfl,HB5.out.setp (k:=k) (j:=35) hk (by decide) _,HM5.out.setCell (.inl HB5.out.F2) _⟩
theorem rxt_take(w:World)(F:Nat→Prop)(X g:Nat)(B:Br)(h:BrG w F X g B)(ho:B.ok)(m:List Value)(hm:Typed ML m)(hn:B.np<1000)(i:Int):Calls Tryz.prog 29 #[.pointer (some ⟨X,0,none⟩),.int .i64 i,.agg m.toArray] w (Stepped w F X g (takeF B i m)):=by
 unfold takeF
 by_cases h0:0≤i
 ·obtain ⟨k,rfl⟩:∃k:Nat,i=k:=⟨i.toNat,by omega⟩
  by_cases hk:k<B.np
  ·rw [if_pos ⟨h0,by simpa using hk⟩]
   simp only[Int.toNat_natCast]
   cases e2:B.gb k 2
   ·simpa using rxt_a w F X g B h ho m hm k hk (by omega) e2
   ·cases e35:B.gb k 35
    ·cases em:(mi m 0 == 2)
     ·simpa using rxt_d w F X g B h ho m hm k hk (by omega) e2 e35 em
     ·cases er:B.hb 1
      ·simpa using rxt_c w F X g B h ho m hm k hk (by omega) e2 e35 (by simpa using em) er
      ·simpa using rxt_e w F X g B h ho m hm k hk (by omega) e2 e35 (by simpa using em) er
    ·simpa using rxt_b w F X g B h ho m hm k hk (by omega) e2 e35
  ·rw[if_neg (fun h=>hk (by simpa using h.2))]
   exact rxt_hi w F X g B h ho m hm k h0 (by omega)
 ·rw[if_neg (fun h=>h0 h.1)]
  exact rxt_lo w F X g B h ho m hm i (by omega)
theorem trRow_ok{B:Br}(ho:B.ok){k:Nat}(hk:k<B.np)(h4:0≤B.hi 4∧B.hi 4≤1000){r:Nat}(hr:r≤24):(trRow B k r).2.ok∧(trRow B k r).2.np=B.np:=by
 unfold trRow
 split
 ·exact⟨ho,rfl⟩
 ·have h:=trAB_ok ho hk h4 (r:=r) (by omega)
  split
  ·exact h
  ·refine⟨h.1.setI (k:=k) (by rw[h.2];exact hk) 19 .i64 _ rfl ?_,h.2⟩
   have:r<24:=by omega
   rcases(by omega:r=0∨r=1∨r=2∨r=3∨r=4∨r=5∨r=6∨r=7∨r=8∨r=9∨r=10∨r=11∨r=12∨r=13∨r=14∨r=15∨r=16∨r=17∨r=18∨r=19∨r=20∨r=21∨r=22∨r=23)with rfl|rfl|rfl|rfl|rfl|rfl|rfl|rfl|rfl|rfl|rfl|rfl|rfl|rfl|rfl|rfl|rfl|rfl|rfl|rfl|rfl|rfl|rfl|rfl<;>decide
theorem trF_ok{B:Br}(ho:B.ok){k:Nat}(hk:k<B.np)(h4:0≤B.hi 4∧B.hi 4≤1000):(trF B k).2.ok:=by
 unfold trF
 split
 ·exact(trRow_ok ho hk h4 trR_le).1
 ·exact ho
theorem pasF_ok{B:Br}{k:Nat}(ho:B.ok)(hk:k<B.np):(pasF B k).2.ok:=by
 have h1:(pasLearn B k).ok:=(ho.setB hk 29 _ rfl).setI hk 20 .i64 _ rfl (by decide)
 have h2:(pasStop B k).ok:=((ho.setB hk 29 _ rfl).setB hk 27 _ rfl).setI hk 20 .i64 _ rfl (by decide)
 have h3:(pasForward B k).ok:=(ho.setB hk 27 _ rfl).setI hk 20 .i64 _ rfl (by decide)
 unfold pasF
 split<;>(try split)<;>(try split)<;>(try split)<;>first|exact ho|exact h1|exact h2|exact h3
theorem txClock_ok{Z:Br}(ho:Z.ok){k:Nat}(hk:k<Z.np):(txClock Z k).ok:=by
 unfold txClock
 split
 ·exact(ho.setB (k:=k) hk 31 true rfl).setI (k:=k) hk 8 .i64 _ rfl (ho.hw 4 rfl)
 ·exact ho.setI (k:=k) hk 8 .i64 _ rfl (ho.hw 4 rfl)
theorem txNews_ok{Z:Br}(ho:Z.ok){k:Nat}(hk:k<Z.np)(hk8:k<1000)(h14:0≤Z.gi k 14∧Z.gi k 14≤100000):(txNews Z k).ok :=
 (txSend_ok ho hk hk8 _ h14).setI (k:=k) (by rw[txSend_np];exact hk) 8 .i64 _ rfl (ho.hw 4 rfl)
theorem txF_cases(Z:Br)(k:Nat):txF Z k=(false,Z)∨(txF Z k=(true,txClock Z k))∨(txF Z k=(true,txNews Z k)∧Z.gi k 14<Z.hi 6):=by
 unfold txF
 by_cases h1:txSel Z k=1
 ·rw[if_pos h1];exact .inr (.inl rfl)
 rw[if_neg h1]
 by_cases h2:txSel Z k=2
 ·rw[if_pos h2]
  refine .inr (.inr ⟨rfl,?_⟩)
  unfold txSel at h2
  split at h2
  ·simp at h2
  split at h2
  ·simp at h2
  split at h2
  ·rename_i h;simp at h;exact h.2
  ·simp at h2
 ·rw[if_neg h2];exact .inl rfl
theorem edgeF_ok{B:Br}{k:Nat}(ho:B.ok)(hk:k<B.np):(edgeF B k).2.ok:=by
 have h1:(edgeOff B k).ok:=(ho.setB hk 32 _ rfl).setI hk 17 .i64 _ rfl (by decide)
 have h2:(edgeOn B k).ok:=(ho.setB hk 32 _ rfl).setI hk 17 .i64 _ rfl (by decide)
 unfold edgeF
 split<;>(try split)<;>(try split)<;>first|exact ho|exact h1|exact h2
end Go.Proofs.YtpanapepcbbagaaGreat
namespace Go.Proofs.YtpanapepcbbagaaGreat
open Go.RowKit Go.BigFrame Go.WideShapes Go.ChangeShapes Go.Deep
structure Fr (A:Nat→Bool) (B C:Br):Prop where
 np:C.np=B.np
 hd:C.hd=B.hd
 os:C.os=B.os
 no:C.no=B.no
 nf:C.nf≤B.nf+1
 ps:∀i j,j<89→A j=false→C.ps[i*89+j]?=B.ps[i*89+j]?
variable {A:Nat→Bool} {B C:Br}
theorem Fr.rf(A:Nat→Bool)(B:Br):Fr A B B:=⟨rfl,rfl,rfl,rfl,by omega,fun _ _ _ _=>rfl⟩
theorem Fr.setp(h:Fr A B C){k j:Nat}{v:Value}(hj:j<89)(hA:A j=true):Fr A B (C.setp k j v):=by
 refine⟨h.np,h.hd,h.os,h.no,h.nf,fun i j' hj' hA'=>?_⟩
 have hne:j≠j':=fun e=>by subst e;rw[hA]at hA';cases hA'
 show(C.ps.set (k*89+j) v)[i*89+j']?=_
 rw[List.getElem?_set_ne (by omega)]
 exact h.ps i j' hj' hA'
theorem Fr.upd(h:Fr A B C){j:Nat}{v:Nat→Value}(hj:j<89)(hA:A j=true):∀n,Fr A B (C.upd j v n)
 | 0=>h
 | n+1=>(Fr.upd h hj hA n).setp hj hA
theorem Fr.tcpn(h:Fr A B C){k:Nat}(hA:A 49=true):∀n,Fr A B (tcp C k n)
 | 0=>h
 | n+1=>by
  unfold tcp
  split
  ·exact Fr.tcpn h hA n
  ·exact(Fr.tcpn h hA n).setp (by decide) hA
theorem Fr.gi(h:Fr A B C)(i:Nat){j:Nat}(hj:j<89)(hA:A j=false):C.gi i j=B.gi i j:=by
 unfold Br.gi
 rw[h.ps i j hj hA]
theorem Fr.hi(h:Fr A B C)(j:Nat):C.hi j=B.hi j:=by
 unfold Br.hi
 rw[h.hd]
def FA(j:Nat):Bool:=!(j == 14 || (decide (51≤j) && decide (j<68)) || j == 78 || j == 82 || j == 86)
theorem rx_fr(B:Br)(k:Nat):Fr FA B (rxF B k).2:=by
 unfold rxF rxDisc rxRcv rxRcvR rxRcvS
 repeat' split
 all_goals repeat (first|exact Fr.rf _ B|refine Fr.setp ?_ (by decide) (by decide))
theorem mig_fr(B:Br)(k:Nat):Fr FA B (migF B k).2:=by
 unfold migF migListen migBegin migYield
 repeat' split
 all_goals repeat (first|exact Fr.rf _ B|refine Fr.setp ?_ (by decide) (by decide))
theorem edge_fr(B:Br)(k:Nat):Fr FA B (edgeF B k).2:=by
 unfold edgeF edgeOff edgeOn
 repeat' split
 all_goals repeat (first|exact Fr.rf _ B|refine Fr.setp ?_ (by decide) (by decide))
theorem pas_fr(B:Br)(k:Nat):Fr FA B (pasF B k).2:=by
 unfold pasF pasLearn pasStop pasForward
 repeat' split
 all_goals repeat (first|exact Fr.rf _ B|refine Fr.setp ?_ (by decide) (by decide))
theorem trAB_fr(B:Br)(k r:Nat):Fr FA B (trAB B k r):=by
 unfold trAB trStop trSettle trAskAll trReAll trAgree trLearn trFwd
 split
 all_goals repeat (first|exact Fr.rf _ B|refine Fr.setp ?_ (by decide) (by decide)|refine Fr.upd ?_ (by decide) (by decide) _)
theorem tr_fr(B:Br)(k:Nat):Fr FA B (trF B k).2:=by
 unfold trF trRow
 repeat' split
 all_goals first|exact Fr.rf _ B|exact trAB_fr B k _|exact(trAB_fr B k _).setp (by decide) (by decide)
theorem tbegin_fr(B:Br)(k:Nat):Fr FA B (tbegin B k):=by
 unfold tbegin
 repeat' split
 all_goals repeat (first|exact Fr.rf _ B|refine Fr.setp ?_ (by decide) (by decide))
theorem tpass_fr(h:Fr FA B C)(k:Nat):Fr FA B (tpass C k):=by
 unfold tpass tpass0
 refine Fr.tcpn ?_ (by decide) _
 repeat (first|exact h|refine Fr.setp ?_ (by decide) (by decide))
theorem top_fr(B:Br)(k:Nat):Fr FA B (topF B k).2:=by
 unfold topF
 split
 ·have h:Fr FA B (B.flush k):=⟨rfl,rfl,rfl,rfl,Nat.le_refl _,fun _ _ _ _=>rfl⟩
  exact Fr.setp (k:=k) (j:=25) (v:=.bool false) h (by decide) (by decide)
 ·unfold topN tforget tactiv tleave tspread tack
  repeat' split
  all_goals repeat (first
   | exact Fr.rf _ B
   | exact tbegin_fr B k
   | exact tpass_fr (Fr.rf _ B) k
   | exact tpass_fr (tbegin_fr B k) k
   | exact Fr.tcpn (tbegin_fr B k) (by decide) _
   | refine Fr.setp ?_ (by decide) (by decide))
def IR(L M:List Value):Prop:=(M[78]?=L[78]?∧(M[86]?=L[86]?∨M[86]?=some (.int .i64 0)∨M[86]?=some (.int .i64 1)))∨(M[78]?=some (.int .i64 (pI L 82))∧M[86]?=some (.int .i64 2))∨(M[78]?=some (.int .i64 (pI L 64))∧M[86]?=some (.int .i64 3))
def KC(j:Nat):Prop:=j=14∨j=64∨j=65∨j=66∨j=67∨j=82
theorem ichg_ne{a b:Bool}{L:List Value}{j:Nat}(h:39≠j)(h2:40≠j):(ichg a b L)[j]?=L[j]?:=(get_ne h2).trans (get_ne h)
theorem iinf_ne{a:Bool}{L:List Value}{j:Nat}(h:24≠j)(h2:23≠j):(iinf a L)[j]?=L[j]?:=by
 cases a
 ·rfl
 ·exact(get_ne h2).trans (get_ne h)
theorem ioth_ne{a:Bool}{L:List Value}{j:Nat}(h:41≠j):(ioth a L)[j]?=L[j]?:=by
 cases a
 ·rfl
 ·exact get_ne h
theorem ichg_len{a b:Bool}{L:List Value}(h:L.length=89):(ichg a b L).length=89:=len_set' (len_set' h)
theorem isup_in{g22 g47:Bool}{is:Int}{p a c1 c2 less:Bool}{v t:List Value}{k:Int}{L:List Value}(hl:L.length=89)(hv:v.length=5)(ht:t.length=4){j:Nat}(hj:KC j∨j=86∨(78≤j∧j<82)):
    (isup g22 g47 is p a c1 c2 less v t k L)[j]?=if j=86 then some (.int .i64 3)else if 78≤j∧j<82 then t[j - 78]? else L[j]?:=by
 have l1:((iagr a ((ichg c1 c2 (iprop p ((L.set 23 (.bool false)).set 34 (.bool false)))).set 22 (.bool (g22 && (is == 3) && !less)))).set 47 (.bool (g47 && a))).length=89:=len_set' (iagr_len (len_set' (ichg_len (iprop_len (len_set' (len_set' hl))))))
 unfold isup iask
 have h1:43≠j∧44≠j∧11≠j∧47≠j∧22≠j∧23≠j∧34≠j∧33≠j∧39≠j∧40≠j∧(j<68∨73≤j):=by unfold KC at hj;omega
 rw[get_ne h1.2.1,get_ne h1.1]
 by_cases h86:j=86
 ·subst h86
  rw[if_pos rfl]
  exact get_same (len_set' (len_setL (len_setL l1 (by omega)) (by omega))) (by decide)
 ·rw[if_neg h86,get_ne (fun e=>h86 e.symm),get_ne h1.2.2.1]
  rw[setL_at (by rw[len_setL l1 (by omega)];omega),ht]
  by_cases h78:78≤j∧j<82
  ·rw[if_pos (by omega),if_pos h78]
  ·rw[if_neg (by omega),if_neg h78,get_out l1 (by omega) (by omega),get_ne h1.2.2.2.1,iagr_ne (by omega) (by omega),get_ne (by omega),ichg_ne (by omega) (by omega),iprop_ne (by omega),get_ne (by omega),get_ne (by omega)]
theorem hear_in{L:List Value}(hl:L.length=89)(n:Nat)(rst:Bool):(∀j,KC j→(hearN n rst L)[j]?=L[j]?)∧IR L (hearN n rst L):=by
 unfold hearN
 split
 ·refine ⟨fun j hj=>?_,.inr (.inr ⟨?_,?_⟩)⟩
  ·rw[isup_in hl rfl rfl (.inl hj),if_neg (by unfold KC at hj;omega),if_neg (by unfold KC at hj;omega)]
  ·rw[isup_in hl rfl rfl (.inr (.inr (by omega))),if_neg (by decide),if_pos (by omega)]
   rfl
  ·rw[isup_in hl rfl rfl (.inr (.inl rfl)),if_pos rfl]
 ·have f:∀j,KC j∨j=78∨j=86→((iagr (rst && !(pB L 3) && ((pI L 51) == 2) && (pB L 55)) (ichg ((pB L 39) || (pB L 52)) ((pB L 40) || (pB L 53)) (iprop (((pI L 51) == 2) && ((pI L 58) == 4) && (pB L 54)) L))).set 11 (.int .i64 (waitsV (pI L 64) (pI L 65) (pI L 66))))[j]?=L[j]?:=fun j hj=>by
   unfold KC at hj
   rw[get_ne (by omega),iagr_ne (by omega) (by omega),ichg_ne (by omega) (by omega),iprop_ne (by omega)]
  exact⟨fun j hj=>f j (.inl hj),.inl ⟨f 78 (.inr (.inl rfl)),.inl (f 86 (.inr (.inr rfl)))⟩⟩
 ·have f:∀j,KC j∨j=78∨j=86→(iinf (((pI L 51) == 2) && (pB L 56)) L)[j]?=L[j]?:=fun j hj=>by
   unfold KC at hj
   exact iinf_ne (by omega) (by omega)
  exact⟨fun j hj=>f j (.inl hj),.inl ⟨f 78 (.inr (.inl rfl)),.inl (f 86 (.inr (.inr rfl)))⟩⟩
 ·have f:∀j,KC j∨j=78∨j=86→(ichg ((pB L 39) || (pB L 52)) ((pB L 40) || (pB L 53)) (iagr (rst && !(pB L 3) && ((pI L 51) == 2) && (pB L 55)) L))[j]?=L[j]?:=fun j hj=>by
   unfold KC at hj
   rw[ichg_ne (by omega) (by omega),iagr_ne (by omega) (by omega)]
  exact⟨fun j hj=>f j (.inl hj),.inl ⟨f 78 (.inr (.inl rfl)),.inl (f 86 (.inr (.inr rfl)))⟩⟩
 ·have f:∀j,KC j∨j=78∨j=86→(ioth ((pI L 51) == 1) L)[j]?=L[j]?:=fun j hj=>by
   unfold KC at hj
   exact ioth_ne (by omega)
  exact⟨fun j hj=>f j (.inl hj),.inl ⟨f 78 (.inr (.inl rfl)),.inl (f 86 (.inr (.inr rfl)))⟩⟩
theorem upd_in{L:List Value}(hl:L.length=89):(∀j,KC j→(iupdL L)[j]?=L[j]?)∧(iupdL L)[78]?=some (.int .i64 (pI L 82))∧(iupdL L)[86]?=some (.int .i64 2):=by
 unfold iupdL iupd iupd2
 have l1:∀(a b:Value),((((L.set 34 (.bool false)).set 33 (.bool false)).set 23 a).set 47 b).length=89:=fun a b=>len_set' (len_set' (len_set' (len_set' hl)))
 refine⟨fun j hj=>?_,?_,?_⟩
 ·unfold KC at hj
  rw[get_ne (by omega),get_ne (by omega),get_ne (by omega),get_ne (by omega),get_out (len_setL (l1 _ _) (by exact(by decide:68+5≤89))) (by exact(by decide:78+4≤89)) (by show j<78∨78+4≤j;omega),get_out (l1 _ _) (by exact(by decide:68+5≤89)) (by show j<68∨68+5≤j;omega),get_ne (by omega),get_ne (by omega),get_ne (by omega),get_ne (by omega)]
 ·rw[get_ne (by decide),get_ne (by decide),get_ne (by decide),get_ne (by decide),setL_at (by rw[len_setL (l1 _ _) (by exact(by decide:68+5≤89))];exact(by decide:78+4≤89)),if_pos (by exact(by decide:78≤78∧78<78+4))]
  rfl
 ·rw[get_ne (by decide),get_ne (by decide)]
  exact get_same (len_set' (len_setL (len_setL (l1 _ _) (by exact(by decide:68+5≤89))) (by exact(by decide:78+4≤89)))) (by decide)
theorem inf_in{L:List Value}(hl:L.length=89)(rst:Bool):(∀j,KC j→(infL rst L).2[j]?=L[j]?)∧IR L (infL rst L).2:=by
 unfold infL
 rcases irowL_cases L with h|h|h|h|h<;>rw[h]
 ·exact⟨fun _ _=>rfl,.inl ⟨rfl,.inl rfl⟩⟩
 ·have f:∀j,KC j∨j=78→(idis L)[j]?=L[j]?:=fun j hj=>by
   unfold KC at hj
   unfold idis iask
   rw[get_ne (by omega),get_ne (by omega),get_ne (by omega),get_ne (by omega),get_ne (by omega),get_ne (by omega),get_ne (by omega),get_ne (by omega),get_ne (by omega),get_ne (by omega)]
  refine⟨fun j hj=>f j (.inl hj),.inl ⟨f 78 (.inr rfl),.inr (.inl ?_)⟩⟩
  show(idis L)[86]?=_
  unfold idis iask
  rw[get_ne (by decide),get_ne (by decide),get_ne (by decide)]
  exact get_same (by simpa using hl) (by decide)
 ·have f:∀j,KC j∨j=78→(iage L)[j]?=L[j]?:=fun j hj=>by
   unfold KC at hj
   unfold iage iask
   rw[get_ne (by omega),get_ne (by omega),get_ne (by omega),get_ne (by omega)]
  refine⟨fun j hj=>f j (.inl hj),.inl ⟨f 78 (.inr rfl),.inr (.inr ?_)⟩⟩
  show(iage L)[86]?=_
  unfold iage iask
  rw[get_ne (by decide),get_ne (by decide),get_ne (by decide)]
  exact get_same (by simpa using hl) (by decide)
 ·obtain⟨a,b,c⟩:=upd_in hl
  exact⟨a,.inr (.inl ⟨b,c⟩)⟩
 ·obtain ⟨a,b⟩:=hear_in hl (clsL L) rst
  have f:∀j,KC j∨j=78∨j=86→(itakeL rst L)[j]?=(hearN (clsL L) rst L)[j]?:=fun j hj=>by
   unfold KC at hj
   unfold itakeL
   rw[get_ne (by omega),get_ne (by omega)]
  refine⟨fun j hj=>(f j (.inl hj)).trans (a j hj),?_⟩
  show IR L (itakeL rst L)
  unfold IR
  rw[f 78 (.inr (.inl rfl)),f 86 (.inr (.inr rfl))]
  exact b
end Go.Proofs.YtpanapepcbbagaaGreat
namespace Go.Proofs.YtpanapepcbbagaaGreat
open Go.RowKit Go.BigFrame Go.WideShapes Go.ChangeShapes Go.Deep
def PI(B:Br)(k:Nat):Prop:=(0≤B.gi k 14∧B.gi k 14≤6)∧(0≤B.gi k 64∧B.gi k 64≤256)∧(0≤B.gi k 65∧B.gi k 65≤256)∧(0≤B.gi k 66∧B.gi k 66≤256)∧(0≤B.gi k 67∧B.gi k 67≤256)∧(0≤B.gi k 78∧B.gi k 78≤257)∧(B.gi k 86=3→B.gi k 78≤256)∧0≤B.gi k 82∧B.gi k 82≤257
def OutIs(B:Br)(l:List Nat):Prop:=l.length=B.no∧∀(i x:Nat),l[i]?=some x→B.os[i*18]?=some (.int .i64 (x:Int))
structure KI (n M:Nat) (s:Nat→Nat) (B:Br):Prop where
 ok:B.ok
 np:B.np=n
 hs:B.hi 2=0∧B.hi 3=20∧B.hi 4=2∧B.hi 5=15∧B.hi 6=6
 h13:0≤B.hi 13∧B.hi 13≤257
 pt:∀k,k<n→PI B k
 out:∃l:List Nat,OutIs B l∧(∀x,x∈l→x<n)∧∀k,k<n→((s k+l.count k:Nat):Int)≤B.gi k 14
 nf:B.nf≤M
variable {n M:Nat} {s:Nat→Nat} {B C:Br}
theorem KI.mono(h:KI n M s B){M':Nat}(hM:M≤M'):KI n M' s B:={ h with nf:=Nat.le_trans h.nf hM }
theorem KI.tr(h:KI n M s B):TR (B.hi 2) (B.hi 3) (B.hi 4) (B.hi 5):=by
 obtain⟨a,b,c,d,-⟩:=h.hs
 rw[a,b,c,d]
 unfold TR
 omega
theorem count_len:∀(n:Nat) (l:List Nat),(∀x,x∈l→x<n)→(∀k,k<n→l.count k≤6)→l.length≤6*n
 | 0,l,h,_=>by
  cases l with
  | nil=>simp
  | cons x l=>exact absurd (h x (by simp)) (by omega)
 | n+1,l,h,hc=>by
  have h1:=count_len n (l.filter (fun x=>x != n)) (fun x hx=>by
   have h2:=List.mem_filter.1 hx
   have h3:=h x h2.1
   have h4:x≠n:=by simpa using h2.2
   omega) (fun k hk=>Nat.le_trans (List.Sublist.count_le k List.filter_sublist) (hc k (by omega)))
  have h3:l.countP (fun a=>decide (¬(a != n)=true))=l.count n:=by
   unfold List.count
   congr 1
   funext x
   by_cases e:x=n<;>simp[e]
  have h2:l.length=l.countP (fun x=>x != n)+l.count n:=by
   rw[←h3]
   exact List.length_eq_countP_add_countP _
  rw[←List.countP_eq_length_filter]at h1
  have h4:=hc n (by omega)
  omega
theorem KI.few(h:KI n M s B)(hn:n≤5):B.no≤30:=by
 obtain⟨l,h1,h2,h3⟩:=h.out
 have:=count_len n l h2 (fun k hk=>by
  have h4:=h3 k hk
  have h5:=(h.pt k hk).1.2
  omega)
 rw[h1.1]at this
 omega
theorem PI.fr{k:Nat}(h:PI B k)(hf:Fr FA B C):PI C k:=by
 unfold PI at h ⊢
 rw[hf.gi k (j:=14) (by decide) (by decide),hf.gi k (j:=64) (by decide) (by decide),hf.gi k (j:=65) (by decide) (by decide),hf.gi k (j:=66) (by decide) (by decide),hf.gi k (j:=67) (by decide) (by decide),hf.gi k (j:=78) (by decide) (by decide),hf.gi k (j:=86) (by decide) (by decide),hf.gi k (j:=82) (by decide) (by decide)]
 exact h
theorem KI.fr(h:KI n M s B)(hf:Fr FA B C)(ok:C.ok):KI n (M+1) s C:=by
 obtain⟨l,⟨h1,h1'⟩,h2,h3⟩:=h.out
 refine⟨ok,hf.np.trans h.np,?_,?_,fun k hk=>(h.pt k hk).fr hf,⟨l,⟨by rw[hf.no];exact h1,fun i x hx=>by rw[hf.os];exact h1' i x hx⟩,h2,fun k hk=>?_⟩,Nat.le_trans hf.nf (by have:=h.nf;omega)⟩
 ·rw[hf.hi,hf.hi,hf.hi,hf.hi,hf.hi];exact h.hs
 ·rw[hf.hi];exact h.h13
 ·rw[hf.gi k (j:=14) (by decide) (by decide)];exact h3 k hk
theorem KI.fr0(h:KI n M s B)(hf:Fr FA B C)(ok:C.ok)(hnf:C.nf=B.nf):KI n M s C:={ h.fr hf ok with nf:=by rw[hnf];exact h.nf }
theorem gi_setPort_ne{k i j:Nat}{l:List Value}(hl:l.length=89)(hk:k*89+89≤B.ps.length)(hj:j<89)(hi:i≠k):(B.setPort k l).gi i j=B.gi i j:=by
 unfold Br.gi
 rw[setPort_at hl hk,if_neg (by omega)]
theorem pI_of{L L':List Value}{j:Nat}(h:L'[j]?=L[j]?):pI L' j=pI L j:=by unfold pI;rw[h]
theorem pI_is{L:List Value}{j:Nat}{x:Int}(h:L[j]?=some (.int .i64 x)):pI L j=x:=by unfold pI;rw[h]
theorem KI.inf(h:KI n M s B){k:Nat}(hk:k<n):KI n M s (infF B k).2:=by
 have hkp:k<B.np:=by rw[h.np];exact hk
 have hp:=h.pt k hk
 have hT:=br_typed h.ok hkp
 have hl:=tpL hT
 have h89:=len89 h.ok hkp
 have e:∀j,j<89→pI (port B.ps k) j=B.gi k j:=fun j hj=>pI_port hj
 have hR:TimR (port B.ps k):=by
  unfold TimR TF
  rw[e 64 (by decide),e 65 (by decide),e 66 (by decide),e 67 (by decide)]
  unfold PI at hp
  omega
 have hT':=infL_typed hT hR (B.hb 1)
 have hl':=tpL hT'
 obtain⟨hc,hi⟩:=inf_in hl (B.hb 1)
 obtain⟨M',hM⟩:∃M',(infL (B.hb 1) (port B.ps k)).2=M':=⟨_,rfl⟩
 have hok:=infF_ok h.ok hkp hR
 have hF:(infF B k).2=B.setPort k M':=by rw[←hM];rfl
 rw[hF]at hok ⊢
 rw[hM]at hl' hc hi
 have g:∀j,j<89→(B.setPort k M').gi k j=pI M' j:=fun j hj=>gi_setPort hl' h89 hj
 have gc:∀j,KC j→(B.setPort k M').gi k j=B.gi k j:=fun j hj=>by
  have hj89:j<89:=by unfold KC at hj;omega
  rw[g j hj89,pI_of (hc j hj),e j hj89]
 have go:∀i j,i≠k→j<89→(B.setPort k M').gi i j=B.gi i j:=fun i j hi hj=>gi_setPort_ne hl' h89 hj hi
 obtain⟨l,⟨h1,h1'⟩,h2,h3⟩:=h.out
 refine⟨hok,h.np,h.hs,h.h13,fun i hi'=>?_,⟨l,⟨h1,h1'⟩,h2,fun i hi'=>?_⟩,h.nf⟩
 ·by_cases hik:i=k
  ·subst hik
   unfold PI at hp ⊢
   rw[gc 14 (by unfold KC;omega),gc 64 (by unfold KC;omega),gc 65 (by unfold KC;omega),gc 66 (by unfold KC;omega),gc 67 (by unfold KC;omega),gc 82 (by unfold KC;omega),g 78 (by decide),g 86 (by decide)]
   rcases hi with ⟨a,b⟩|⟨a,b⟩|⟨a,b⟩
   ·rw[pI_of a,e 78 (by decide)]
    rcases b with b|b|b
    ·rw[pI_of b,e 86 (by decide)];exact hp
    ·rw[pI_is b];omega
    ·rw[pI_is b];omega
   ·rw[pI_is a,pI_is b,e 82 (by decide)];omega
   ·rw[pI_is a,pI_is b,e 64 (by decide)];omega
  ·have hq:=h.pt i hi'
   unfold PI at hq ⊢
   rw[go i 14 hik (by decide),go i 64 hik (by decide),go i 65 hik (by decide),go i 66 hik (by decide),go i 67 hik (by decide),go i 82 hik (by decide),go i 78 hik (by decide),go i 86 hik (by decide)]
   exact hq
 ·by_cases hik:i=k
  ·subst hik;rw[gc 14 (by unfold KC;omega)];exact h3 i hi'
  ·rw[go i 14 hik (by decide)];exact h3 i hi'
theorem chL_ne{k:Nat}{rp id:Int}{L:List Value}{j:Nat}(h:88≠j)(h2:50≠j):(chL k rp id L)[j]?=L[j]?:=by
 have d:∀(a b:Bool) (X:List Value),(dsL a b X)[j]?=X[j]?:=fun a b X=>by
  unfold dsL
  split
  ·exact get_ne h
  ·exact(get_ne h2).trans (get_ne h)
 unfold chL
 repeat' split
 all_goals first|exact get_ne h|exact(get_ne h2).trans (get_ne h)|exact(d _ _ _).trans (get_ne h2)|exact d _ _ _|rfl
theorem stL_ne{k:Nat}{L:List Value}(hl:L.length=89){j:Nat}(hj:j≠44∧j≠88∧j≠50∧(j<73∨78≤j)∧(j<82∨86≤j)):(stL B k L)[j]?=L[j]?:=by
 unfold stL tellL
 rw[get_ne (by omega),chL_ne (by omega) (by omega),get_ne (by omega),get_out (len_setL hl (by exact(by decide:73+5≤89))) (by exact(by decide:82+4≤89)) (by show j<82∨82+4≤j;omega),get_out hl (by exact(by decide:73+5≤89)) (by show j<73∨73+5≤j;omega)]
theorem stL_82{k:Nat}{L:List Value}(hl:L.length=89):(stL B k L)[82]?=some (.int .i64 (B.hi 13)):=by
 unfold stL tellL
 rw[get_ne (by decide),chL_ne (by decide) (by decide),get_ne (by decide),setL_at (by rw[len_setL hl (by exact(by decide:73+5≤89))];exact(by decide:82+4≤89)),if_pos (by exact(by decide:82≤82∧82<82+4))]
 rfl
theorem psel_gi(ho:B.ok):∀m,m≤B.np→(∀i j,i<B.np→(j=14∨(51≤j∧j<73)∨j=78∨j=86)→(psel B m).gi i j=B.gi i j)∧(∀i,i<m→(psel B m).gi i 82=B.hi 13)∧(∀i,m≤i→i<B.np→(psel B m).gi i 82=B.gi i 82)
 | 0,_=>⟨fun _ _ _ _=>rfl,fun i hi=>absurd hi (by omega),fun _ _ _=>rfl⟩
 | m+1,hm=>by
  obtain⟨a,b,c⟩:=psel_gi ho m (by omega)
  have okm:=psel_ok ho m (by omega)
  have hnp:=psel_np B m
  have hmk:m<(psel B m).np:=by rw[hnp];omega
  have hl:=tpL (br_typed okm hmk)
  have h89:=len89 okm hmk
  have hl':(stL B m (port (psel B m).ps m)).length=89:=tpL (stL_typed ho (br_typed okm hmk))
  have e:(psel B (m+1))=(psel B m).setPort m (stL B m (port (psel B m).ps m)):=rfl
  rw[e]
  refine⟨fun i j hi hj=>?_,fun i hi=>?_,fun i hi hi2=>?_⟩
  ·have hj89:j<89:=by omega
   by_cases him:i=m
   ·subst him
    rw[gi_setPort hl' h89 hj89,pI_of (stL_ne hl (by omega)),pI_port hj89]
    exact a i j hi hj
   ·rw[gi_setPort_ne hl' h89 hj89 him]
    exact a i j hi hj
  ·by_cases him:i=m
   ·subst him
    rw[gi_setPort hl' h89 (by decide),pI_is (stL_82 hl)]
   ·rw[gi_setPort_ne hl' h89 (by decide) him]
    exact b i (by omega)
  ·rw[gi_setPort_ne hl' h89 (by decide) (by omega)]
   exact c i (by omega) hi2
theorem rootF_at(B:Br):∀m,(rootF B m).at_=-1∨∃k:Nat,k<m∧(rootF B m).at_=k∧B.gi k 86=3
 | 0=>.inl rfl
 | m+1=>by
  unfold rootF
  split
  ·rename_i h
   refine .inr ⟨m,by omega,rfl,?_⟩
   simp only[Bool.and_eq_true,offers,beq_iff_eq]at h
   exact h.1.1
  ·rcases rootF_at B m with h|⟨k,hk,h1,h2⟩
   ·exact .inl h
   ·exact .inr ⟨k,by omega,h1,h2⟩
theorem KI.sel(h:KI n M s B)(hn:n<1000):KI n M s (selF B).2:=by
 have hR:∀k,k<B.np→0≤B.gi k 78∧B.gi k 78≤65535:=fun k hk=>by
  have:=h.pt k (by rw[←h.np];exact hk)
  unfold PI at this
  omega
 have hok:=selF_ok h.ok (by rw[h.np];exact hn) hR
 have hf:Fr FA B (noR B B.np):=Fr.upd (Fr.rf _ B) (by decide) (by decide) _
 have okN:=noR_ok h.ok (Nat.le_refl B.np)
 have hN:=h.fr0 hf okN ((upd_rest B 43 _ _).2.2.1)
 unfold selF at hok ⊢
 split
 ·rename_i hany
  rw[if_pos hany]at hok
  obtain⟨N,hNe⟩:∃N,noR B B.np=N:=⟨_,rfl⟩
  rw[hNe]at hok hN okN ⊢
  have hnp:B.np=N.np:=by rw[h.np,hN.np]
  rw[hnp]at hok ⊢
  have npN:=hN.np
  have ok2:(selB2 N).ok:=selB2_ok okN (by rw[npN];exact hn) (fun k hk=>by
   have:=hN.pt k (by rw[←npN];exact hk)
   unfold PI at this
   omega)
  have hl17:N.hd.length=17:=okN.hd.1
  have hl17b:(selB1 N).hd.length=17:=by
   unfold selB1 Br.sethr
   show(setL (setL N.hd 7 _) 12 _).length=17
   rw[setL_len (by rw[setL_len (by rw[hl17];exact(by decide:7+5≤17))];rw[hl17];exact(by decide:12+1≤17)),setL_len (by rw[hl17];exact(by decide:7+5≤17)),hl17]
  have hlt:∀j,j<7→(selB2 N).hi j=N.hi j:=fun j hj=>by
   unfold Br.hi
   have e:(selB2 N).hd[j]?=N.hd[j]?:=by
    show(setL (setL (setL N.hd 7 _) 12 _) 13 (rtL (selB1 N) (selV N).at_))[j]?=_
    have hr4:(rtL (selB1 N) (selV N).at_).length=4:=by unfold rtL;split<;>rfl
    have hb:(setL (setL N.hd 7 (selV N).cells.toList) 12 [Value.int IntKind.i64 (selV N).at_]).length=17:=hl17b
    have ha:(setL N.hd 7 (selV N).cells.toList).length=17:=by rw[setL_len (by rw[hl17];exact(by decide:7+5≤17)),hl17]
    rw[setL_at (by rw[hb,hr4];omega),if_neg (by omega),setL_at (by rw[ha];exact(by decide:12+1≤17)),if_neg (by omega),setL_at (by rw[hl17];exact(by decide:7+5≤17)),if_neg (by omega)]
   rw[e]
  have h13:0≤(selB2 N).hi 13∧(selB2 N).hi 13≤257:=by
   have hr4:(rtL (selB1 N) (selV N).at_).length=4:=by unfold rtL;split<;>rfl
   have e:(selB2 N).hi 13=pI (rtL (selB1 N) (selV N).at_) 0:=hi_sethr_in hl17b (by rw[hr4];decide) (by decide) (by rw[hr4];decide)
   rw[e]
   unfold rtL
   split
   ·show 0≤(selB1 N).hi 2∧(selB1 N).hi 2≤257
    have e2:(selB1 N).hi 2=N.hi 2:=by
     unfold Br.hi
     have ha:(setL N.hd 7 (selV N).cells.toList).length=17:=by rw[setL_len (by rw[hl17];exact(by decide:7+5≤17)),hl17]
     have e3:(selB1 N).hd[2]?=N.hd[2]?:=by
      show(setL (setL N.hd 7 _) 12 _)[2]?=_
      rw[setL_at (by rw[ha];exact(by decide:12+1≤17)),if_neg (fun h=>absurd h.1 (by decide)),setL_at (by rw[hl17];exact(by decide:7+5≤17)),if_neg (fun h=>absurd h.1 (by decide))]
     rw[e3]
    rw[e2,hN.hs.1]
    omega
   ·rename_i hneg
    rcases rootF_at N N.np with h1|⟨k,hk,h1,h2⟩
    ·exact absurd (show(selV N).at_<0 by unfold selV;rw[h1];omega) hneg
    ·have e4:(selV N).at_.toNat=k:=by unfold selV;rw[h1];rfl
     show 0≤(selB1 N).gi (selV N).at_.toNat 78+1∧(selB1 N).gi (selV N).at_.toNat 78+1≤257
     rw[e4]
     have e5:(selB1 N).gi k 78=N.gi k 78:=rfl
     rw[e5]
     have:=hN.pt k (by rw[←npN];exact hk)
     unfold PI at this
     omega
  obtain⟨ga,gb,-⟩:=psel_gi ok2 N.np (Nat.le_refl _)
  have np2:(selB2 N).np=N.np:=rfl
  have gs:∀i j,(selB2 N).gi i j=N.gi i j:=fun _ _=>rfl
  obtain⟨l,⟨h1,h1'⟩,h2,h3⟩:=hN.out
  have hrest:=psel_rest (selB2 N) N.np
  refine⟨hok,(psel_np _ _).trans (np2.trans npN),?_,?_,fun k hk=>?_,⟨l,⟨by rw[hrest.1];exact h1,fun i x hx=>by rw[hrest.2.1];exact h1' i x hx⟩,h2,fun k hk=>?_⟩,by rw[hrest.2.2.1];exact hN.nf⟩
  ·have e:∀j,(psel (selB2 N) N.np).hi j=(selB2 N).hi j:=fun j=>by unfold Br.hi;rw[psel_hd]
   rw[e,e,e,e,e,hlt 2 (by decide),hlt 3 (by decide),hlt 4 (by decide),hlt 5 (by decide),hlt 6 (by decide)]
   exact hN.hs
  ·have e:(psel (selB2 N) N.np).hi 13=(selB2 N).hi 13:=by unfold Br.hi;rw[psel_hd]
   rw[e]
   exact h13
  ·have hk2:k<(selB2 N).np:=by rw[np2,npN];exact hk
   have hp:=hN.pt k hk
   unfold PI at hp ⊢
   rw[ga k 14 hk2 (by omega),ga k 64 hk2 (by omega),ga k 65 hk2 (by omega),ga k 66 hk2 (by omega),ga k 67 hk2 (by omega),ga k 78 hk2 (by omega),ga k 86 hk2 (by omega),gb k (by rw[npN];exact hk),gs,gs,gs,gs,gs,gs,gs]
   omega
  ·have hk2:k<(selB2 N).np:=by rw[np2,npN];exact hk
   rw[ga k 14 hk2 (by omega),gs]
   exact h3 k hk
 ·exact hN
theorem KI.txc(h:KI n M s B){k:Nat}(hk:k<n):KI n M s (txClock B k):=by
 have hkp:k<B.np:=by rw[h.np];exact hk
 refine h.fr0 ?_ (txClock_ok h.ok hkp) ?_
 ·unfold txClock
  split
  ·exact((Fr.rf _ B).setp (by decide) (by decide)).setp (by decide) (by decide)
  ·exact(Fr.rf _ B).setp (by decide) (by decide)
 ·unfold txClock
  split<;>rfl
theorem KI.txn(h:KI n M s B){k:Nat}(hk:k<n)(hlt:B.gi k 14<6)(hn:n<1000):KI n M s (txNews B k):=by
 have hkp:k<B.np:=by rw[h.np];exact hk
 have hp:=(h.pt k hk).1
 have hok:=txNews_ok h.ok hkp (by omega) (by omega)
 obtain⟨kd,hkd⟩:∃x,txKind (B.gb k 45) (B.gi k 87)=x:=⟨_,rfl⟩
 have e:∃C,Fr FA (B.sent k kd) C∧C.nf=B.nf∧txNews B k=(C.setp k 14 (.int .i64 (B.gi k 14+1))).setp k 8 (.int .i64 (B.hi 4)):=by
  unfold txNews txSend
  rw[hkd]
  split
  ·exact⟨_,(Fr.rf _ _).setp (by decide) (by decide),rfl,rfl⟩
  ·exact⟨_,((Fr.rf _ _).setp (by decide) (by decide)).setp (by decide) (by decide),rfl,rfl⟩
 obtain⟨C,hf,hnf,hE⟩:=e
 rw[hE]at hok ⊢
 obtain⟨y,hy⟩:∃y,B.gi k 14+1=y:=⟨_,rfl⟩
 rw[hy]at hok ⊢
 have l89:=len89 h.ok hkp
 have lC:k*89+14<C.ps.length:=by
  have h1:=hf.ps k 14 (by decide) (by decide)
  have h2:(B.sent k kd).ps[k*89+14]?=B.ps[k*89+14]?:=rfl
  have h3:=List.getElem?_eq_getElem (l:=B.ps) (i:=k*89+14) (by omega)
  rw[h2,h3]at h1
  exact(List.getElem?_eq_some_iff.1 h1).1
 have g:∀i j,j<89→FA j=false→(i≠k∨j≠14)→((C.setp k 14 (.int .i64 y)).setp k 8 (.int .i64 (B.hi 4))).gi i j=B.gi i j:=fun i j hj hA hne=>by
  have h8:j≠8:=fun e=>by subst e;exact absurd hA (by decide)
  have e1:((C.setp k 14 (.int .i64 y)).setp k 8 (.int .i64 (B.hi 4))).ps[i*89+j]?=C.ps[i*89+j]?:=by
   show((C.ps.set (k*89+14) _).set (k*89+8) _)[i*89+j]?=_
   rw[List.getElem?_set_ne (by omega),List.getElem?_set_ne (by omega)]
  unfold Br.gi
  rw[e1,hf.ps i j hj hA]
  rfl
 have g14:((C.setp k 14 (.int .i64 y)).setp k 8 (.int .i64 (B.hi 4))).gi k 14=y:=by
  unfold Br.gi
  have e1:((C.setp k 14 (.int .i64 y)).setp k 8 (.int .i64 (B.hi 4))).ps[k*89+14]?=some (.int .i64 y):=by
   show((C.ps.set (k*89+14) _).set (k*89+8) _)[k*89+14]?=_
   rw[List.getElem?_set_ne (by omega),List.getElem?_set_self lC]
  rw[e1]
 obtain⟨l,⟨h1,h1'⟩,h2,h3⟩:=h.out
 refine⟨hok,hf.np.trans h.np,?_,?_,fun i hi=>?_,⟨l++[k],⟨?_,fun i x hx=>?_⟩,fun x hx=>?_,fun i hi=>?_⟩,?_⟩
 ·show C.hi 2=0∧C.hi 3=20∧C.hi 4=2∧C.hi 5=15∧C.hi 6=6
  rw[hf.hi,hf.hi,hf.hi,hf.hi,hf.hi]
  exact h.hs
 ·show 0≤C.hi 13∧C.hi 13≤257
  rw[hf.hi]
  exact h.h13
 ·have hq:=h.pt i hi
  unfold PI at hq ⊢
  rw[g i 64 (by decide) (by decide) (by omega),g i 65 (by decide) (by decide) (by omega),g i 66 (by decide) (by decide) (by omega),g i 67 (by decide) (by decide) (by omega),g i 78 (by decide) (by decide) (by omega),g i 86 (by decide) (by decide) (by omega),g i 82 (by decide) (by decide) (by omega)]
  by_cases hik:i=k
  ·subst hik
   rw[g14]
   omega
  ·rw[g i 14 (by decide) (by decide) (.inl hik)]
   exact hq
 ·show(l++[k]).length=C.no
  rw[hf.no,List.length_append,h1]
  rfl
 ·show C.os[i*18]?=_
  rw[hf.os]
  show(B.os++sentL k (txMsg B k kd))[i*18]?=_
  have ho:=h.ok.os.1
  have h18:B.os.length=B.no*18:=ho
  by_cases hil:i<l.length
  ·rw[List.getElem?_append_left (by omega)]
   rw[List.getElem?_append_left hil]at hx
   exact h1' i x hx
  ·rw [List.getElem?_append_right (by omega)]at hx
   have hi0:i - l.length=0:=by
    have:=(List.getElem?_eq_some_iff.1 hx).1
    simp at this
    omega
   rw[hi0]at hx
   obtain rfl:k=x:=by simpa using hx
   rw[List.getElem?_append_right (by omega),show i*18 - B.os.length=0 from by omega]
   rfl
 ·rcases List.mem_append.1 hx with hx|hx
  ·exact h2 x hx
  ·obtain rfl:x=k:=by simpa using hx
   exact hk
 ·rw [List.count_append,List.count_singleton]
  have h4:=h3 i hi
  by_cases hik:i=k
  ·subst hik
   rw[g14]
   simp
   omega
  ·rw[g i 14 (by decide) (by decide) (.inl hik),if_neg (by simpa using fun e:k=i=>hik e.symm)]
   exact h4
 ·show C.nf≤M
  rw[hnf]
  exact h.nf
theorem KI.tx(h:KI n M s B){k:Nat}(hk:k<n)(hn:n<1000):KI n M s (txF B k).2:=by
 rcases txF_cases B k with e|e|⟨e,hlt⟩
 ·rw[e];exact h
 ·rw[e];exact h.txc hk
 ·rw[e]
  rw[h.hs.2.2.2.2]at hlt
  exact h.txn hk hlt hn
end Go.Proofs.YtpanapepcbbagaaGreat
namespace Go.Proofs.YtpanapepcbbagaaGreat
open Go.RowKit Go.BigFrame Go.WideShapes Go.ChangeShapes Go.Deep
def WB(N:Nat→Prop)(X g:Nat)(B:Br)(w:World):Prop:=BrG w (fun n=>N n∧n<w.heap.size) X g B
def stF:Nat→FuncId
 | 0=>37
 | 1=>38
 | 2=>39
 | 3=>40
 | 4=>41
 | 5=>42
 | 6=>43
 | _=>44
def stTab:Array Value:=#[.func (.func 37) #[] #[],.func (.func 38) #[] #[],.func (.func 39) #[] #[],.func (.func 40) #[] #[],.func (.func 41) #[] #[],.func (.func 42) #[] #[],.func (.func 43) #[] #[],.func (.func 44) #[] #[]]
theorem st_ix(j:Nat)(hj:j<8)(w:World):(Instr.index 85 (.agg stTab) (.int .i64 (j:Int))).run Tryz.prog w=.ok (.func (.func (stF j)) #[] #[]) w:=by
 rcases(by omega:j=0∨j=1∨j=2∨j=3∨j=4∨j=5∨j=6∨j=7)with rfl|rfl|rfl|rfl|rfl|rfl|rfl|rfl<;>kernel_rfl
theorem st_call(j:Nat)(hj:j<8)(v u:Value)(w:World):(callFunc (stF j) #[v,u]).run Tryz.prog w=.ok (Next.enter (stF j) #[v,u]) w:=by
 rcases(by omega:j=0∨j=1∨j=2∨j=3∨j=4∨j=5∨j=6∨j=7)with rfl|rfl|rfl|rfl|rfl|rfl|rfl|rfl<;>kernel_rfl
theorem st_built:Tryz.prog.built 85 [(0,.func (.func 37) #[] #[]),(1,.func (.func 38) #[] #[]),(2,.func (.func 39) #[] #[]),(3,.func (.func 40) #[] #[]),(4,.func (.func 41) #[] #[]),(5,.func (.func 42) #[] #[]),(6,.func (.func 43) #[] #[]),(7,.func (.func 44) #[] #[])]=some stTab:=by kernel_rfl
def So(N:Nat→Prop)(X g:Nat)(R:Bool→Br→Prop)(w:World)(e:Ending)(w':World):Prop:=∃d B,e=.returned (.bool d)∧WB N X g B w'∧Mut (fun n=>N n) w w'∧R d B
structure Rel (N:Nat→Prop) (X g n:Nat) (S:Br→Prop) (J:Nat→Nat→Nat→Br→Prop):Prop where
 pre:∀B,S B→B.ok∧B.np=n
 sel:∀B w,(∀n,w.heap.size≤n→N n)→S B→WB N X g B w→Calls Tryz.prog 36 #[.pointer (some ⟨X,0,none⟩)] w (So N X g (fun d B'=>J 0 0 d.toNat B') w)
 st:∀k j c B w,(∀n,w.heap.size≤n→N n)→k<n→j<8→J k j c B→WB N X g B w→Calls Tryz.prog (stF j) #[.pointer (some ⟨X,0,none⟩),.int .i64 (k:Int)] w (So N X g (fun d B'=>J k (j+1) (c+d.toNat) B') w)
 next:∀k c B,k<n→J k 8 c B→J (k+1) 0 c B
 okJ:∀k c B,J k 0 c B→B.ok∧B.np=n
theorem round_rel{N:Nat→Prop}{X g n:Nat}{S:Br→Prop}{J:Nat→Nat→Nat→Br→Prop}(hJ:Rel N X g n S J)(hn:n≤5)(hn0:0<n)(B:Br)(w:World)(hQ:∀n,w.heap.size≤n→N n)(h:WB N X g B w)(hS:S B):
    Calls Tryz.prog 26 #[.pointer (some ⟨X,0,none⟩)] w fun e w'=>∃c B',c≤41∧e=.returned (.int .i64 (c:Nat))∧WB N X g B' w'∧Mut (fun n=>N n) w w'∧J n 0 c B':=by
 have HJ:=hD hJ
 have HQ:=hD hQ
 go_enter Tryz.func26,Tryz.ntmps26
 go_wp2_with fail
 refine(hJ.sel B w hQ hS h).mono ?_
 rintro e w1 ⟨d0,B1,rfl,hB,hm,hj⟩
 have HB:=hD hB
 have HM:=hD hm
 obtain⟨hok,hnp⟩:=hJ.okJ 0 _ B1 hj
 obtain⟨cap,c17,hc1,hc2⟩:=BrG.cell17 hB hok
 rw[hnp]at c17 hc1
 have HJ1:=hD hj
 clear h hJ hB hm hj hS hok hnp hQ
 cases d0
 all_goals
  go_wp2_with fail
  go_loopw [16,3] (fun v a wr=>∃(k c:Nat) (C:Br),k≤n∧c≤1+8*k∧v=.int .i64 k∧a=.int .i64 (c:Nat)∧WB N X g C wr∧J k 0 c C∧Mut (fun n=>N n) w wr) (fun v _ _=>n - (intOf v).toNat)
  case atStart=>exact⟨0,_,B1,by omega,by simp,rfl,rfl,HB.out,HJ1.out,HM.out⟩
  case round =>
   clear HJ1 HB HM
   obtain⟨k,c,C,hk,hc,rfl,rfl,hB,hj,hm⟩:=hrel
   have HB:=hD hB
   have HM:=hD hm
   have HJ1:=hD hj
   clear hB hm hj
   by_cases hlt:k<n
   ·have dlt:decide ((k:Int)<(n:Int))=true:=by simp;omega
    go_wp2_with (first
     | fail
     | ((with_reducible refine at_build 85 ?_);refine wpList_build2 rfl 85 _ rfl _ rfl _ st_built ?_))
    go_loopw [20,3] (fun v a wr=>∃(j c':Nat) (D:Br),j≤8∧c'≤c+j∧v=.int .i64 j∧a=.int .i64 (c':Nat)∧WB N X g D wr∧J k j c' D∧Mut (fun n=>N n) w wr) (fun v _ _=>8 - (intOf v).toNat)
    case atStart=>exact⟨0,c,C,by omega,by omega,rfl,rfl,HB.out,HJ1.out,HM.out⟩
    case round =>
     clear HB HM HJ1 C
     obtain⟨j,c',D,hj,hc',rfl,rfl,hB,hjj,hm⟩:=hrel
     have HB:=hD hB
     have HM:=hD hm
     have HJ1:=hD hjj
     clear hB hm hjj
     by_cases hl8:j<8
     ·have dlt8:decide ((j:Int)<8)=true:=by simp;omega
      have hix:=st_ix j hl8
      have hcf:=st_call j hl8
      go_wp2_with fail
      refine(HJ.out.st k j c' D _ (fun n hn=>HQ.out n (Nat.le_trans HM.out.size hn)) hlt hl8 HJ1.out HB.out).mono ?_
      rintro e w2 ⟨d,E,rfl,hB2,hm2,hj2⟩
      have HB2:=hD hB2
      have HM2:=hD (HM.out.trans hm2)
      have HJ2:=hD hj2
      clear hB2 hm2 hix hcf hj2
      have hup:IntKind.i64.wrap ((c':Int)+1)=((c'+1:Nat):Int):=by rw[IntKind.wrap_i64];omega
      have hupj:IntKind.i64.wrap ((j:Int)+1)=((j+1:Nat):Int):=by rw[IntKind.wrap_i64];omega
      cases d
      ·go_wp2_with fail
       go_roundw
       case rel=>exact⟨j+1,c',E,by omega,by omega,by go_num,rfl,HB2.out,HJ2.out,HM2.out⟩
       case measure=>simp[intOf];omega
      ·go_wp2_with fail
       go_roundw
       case rel=>exact⟨j+1,c'+1,E,by omega,by omega,by go_num,congrArg (Value.int .i64) (by omega),HB2.out,HJ2.out,HM2.out⟩
       case measure=>simp[intOf];omega
     ·obtain rfl:j=8:=by omega
      have hupk:IntKind.i64.wrap ((k:Int)+1)=((k+1:Nat):Int):=by rw[IntKind.wrap_i64];omega
      go_wp2_with fail
      go_roundw
      case rel=>exact⟨k+1,c',D,by omega,by omega,by go_num,rfl,HB.out,HJ.out.next k c' D hlt HJ1.out,HM.out⟩
      case measure=>simp[intOf];omega
   ·obtain rfl:k=n:=by omega
    have dlt:decide ((k:Int)<(k:Int))=false:=by simp
    go_wp2_with fail
    go_ret
    exact⟨c,C,by omega,rfl,HB.out,HM.out,HJ1.out⟩
theorem run_rel{N:Nat→Prop}{X g n:Nat}(S:Nat→Br→Prop)(T:Br→Prop)(w:World)(hQ:∀n,w.heap.size≤n→N n)(B:Br)(h:WB N X g B w)(hS:S 0 B)(hr:∀r B w,(∀n,w.heap.size≤n→N n)→r<1000→S r B→WB N X g B w→Calls Tryz.prog 26 #[.pointer (some ⟨X,0,none⟩)] w fun e w'=>∃c B',c≤41∧e=.returned (.int .i64 (c:Nat))∧WB N X g B' w'∧Mut (fun n=>N n) w w'∧(c=0→T B')∧(c≠0→S (r+1) B')):
    Calls Tryz.prog 17 #[.pointer (some ⟨X,0,none⟩)] w fun e w'=>∃(k:Nat) (d:Bool) (B':Br),e=.returned (.tuple #[.int .i64 (k:Int),.bool d])∧WB N X g B' w'∧Mut (fun n=>N n) w w'∧(d=true→T B')∧(d=false→S 1000 B'):=by
 have HR:=hD hr
 have HQ:=hD hQ
 have H:=hD h
 have HS:=hD hS
 clear hr h hS hQ
 go_enter Tryz.func17,Tryz.ntmps17
 go_wp2_with fail
 go_loopw [5,2] (fun v a wr=>∃(r k:Nat) (C:Br),r≤1000∧k≤r*100∧v=.int .i64 r∧a=.int .i64 k∧WB N X g C wr∧S r C∧Mut (fun n=>N n) w wr) (fun v _ _=>1000 - (intOf v).toNat)
 case atStart=>exact⟨0,0,B,by omega,by omega,rfl,rfl,H.out,HS.out,Mut.refl _ w⟩
 case round =>
  clear H HS
  obtain⟨r,k,C,hrm,hk,rfl,rfl,hB,hs,hm⟩:=hrel
  have HB:=hD hB
  have HM:=hD hm
  have HS:=hD hs
  clear hB hm hs
  by_cases hlt:r<1000
  ·have dlt:decide ((r:Int)<1000)=true:=by simp;omega
   go_wp2_with fail
   refine(HR.out r C _ (fun n hn=>HQ.out n (Nat.le_trans HM.out.size hn)) hlt HS.out HB.out).mono ?_
   rintro e w2 ⟨q,D,hq,rfl,hB2,hm2,h0,h1⟩
   have HB2:=hD hB2
   have HM2:=hD (HM.out.trans hm2)
   have H0:=hD h0
   have H1:=hD h1
   clear hB2 hm2 h0 h1
   by_cases hz:q=0
   ·subst hz
    go_wp2_with fail
    go_ret2
    exact⟨k,true,D,rfl,HB2.out,HM2.out,(fun _=>by simpa using H0.out),(fun h=>by cases h)⟩
   ·have dq:((q:Int) == 0)=false:=by simpa using hz
    have hup:IntKind.i64.wrap ((k:Int)+(q:Int))=((k+q:Nat):Int):=by rw[IntKind.wrap_i64];omega
    go_wp2_with fail
    go_roundw
    case rel=>exact⟨r+1,k+q,D,by omega,by omega,by go_num,congrArg (Value.int .i64) (by omega),HB2.out,H1.out hz,HM2.out⟩
    case measure=>simp[intOf];omega
  ·obtain rfl:r=1000:=by omega
   have dlt:decide ((1000:Int)<1000)=false:=by decide
   go_wp2_with fail
   go_ret2
   exact⟨k,false,C,rfl,HB.out,HM.out,(fun h=>by cases h),(fun _=>HS.out)⟩
theorem So.of{N:Nat→Prop}{X g:Nat}{R:Bool→Br→Prop}{w:World}{r:Bool × Br}{e:Ending}{w':World}(h:Stepped w (fun n=>N n∧n<w.heap.size) X g r e w')(hR:R r.1 r.2):So N X g R w e w' :=
 ⟨r.1,r.2,h.1,h.2.1.mono (fun n hn=>⟨hn.1,nL hn.2 h.2.2.size⟩),h.2.2.mono (fun n _ hn=>hn.1),hR⟩
theorem So.ofW{N:Nat→Prop}{X g:Nat}{R:Bool→Br→Prop}{w:World}{r:Bool × Br}{e:Ending}{w':World}(h:e=.returned (.bool r.1)∧BrG w' (fun n=>N n∧n<w'.heap.size) X g r.2∧Mut (fun n=>N n) w w')(hR:R r.1 r.2):So N X g R w e w' :=
 ⟨r.1,r.2,h.1,h.2.1,h.2.2,hR⟩
theorem rel_ki{N:Nat→Prop}{X g n M:Nat}{s:Nat→Nat}(hn:n≤5)(hn0:0<n)(hM:M≤900000000):Rel N X g n (KI n M s) (fun k j _ B=>k≤n∧KI n (M+8*k+j) s B):=by
 refine⟨fun B h=>⟨h.ok,h.np⟩,fun B w hQ hS h=>?_,fun k j c B w hQ hk hj hJ h=>?_,fun k c B hk hJ=>⟨by omega,hJ.2.mono (by omega)⟩,fun k c B hJ=>⟨hJ.2.ok,hJ.2.np⟩⟩
 ·refine(sel_step w _ X g B h hS.ok (by rw[hS.np];omega) (by rw[hS.np];exact hn0) (fun k hk=>?_)).mono (fun e w' hh=>So.of hh ⟨by omega,(hS.sel (by omega)).mono (by omega)⟩)
  have:=hS.pt k (by rw[←hS.np];exact hk)
  unfold PI at this
  omega
 ·obtain ⟨-,hJ⟩:=hJ
  have hkp:k<B.np:=by rw[hJ.np];exact hk
  have hnp:B.np<1000:=by rw[hJ.np];omega
  have hk2:k<1000:=by omega
  have h4:0≤B.hi 4∧B.hi 4≤1000:=by rw[hJ.hs.2.2.1];omega
  have hp:=hJ.pt k hk
  have up:∀{C:Br},KI n (M+8*k+j+1) s C→k≤n∧KI n (M+8*k+(j+1)) s C:=fun hC=>⟨by omega,hC.mono (by omega)⟩
  have up0:∀{C:Br},KI n (M+8*k+j) s C→k≤n∧KI n (M+8*k+(j+1)) s C:=fun hC=>⟨by omega,hC.mono (by omega)⟩
  rcases(by omega:j=0∨j=1∨j=2∨j=3∨j=4∨j=5∨j=6∨j=7)with rfl|rfl|rfl|rfl|rfl|rfl|rfl|rfl
  ·exact(rx_step w _ X g k B h hJ.ok hkp hk2).mono (fun e w' hh=>So.of hh (up (hJ.fr (rx_fr B k) (rxF_ok hJ.ok hkp))))
  ·exact(mig_step w _ X g k B h hJ.ok hkp hk2).mono (fun e w' hh=>So.of hh (up (hJ.fr (mig_fr B k) (migF_ok hJ.ok hkp))))
  ·exact(edge_step w _ X g k B h hJ.ok hkp hk2).mono (fun e w' hh=>So.of hh (up (hJ.fr (edge_fr B k) (edgeF_ok hJ.ok hkp))))
  ·refine(inf_step w _ X g k B h hJ.ok hkp hnp ?_).mono (fun e w' hh=>So.of hh (up0 (hJ.inf hk)))
   unfold TimR TF
   rw[pI_port (by decide),pI_port (by decide),pI_port (by decide),pI_port (by decide)]
   unfold PI at hp
   omega
  ·exact(trans_step w _ X g k B h hJ.ok hkp hnp (fun n hn'=>hn'.2) h4).mono (fun e w' hh=>So.of hh (up (hJ.fr (tr_fr B k) (trF_ok hJ.ok hkp h4))))
  ·exact(pas_step w _ X g k B h hJ.ok hkp hk2).mono (fun e w' hh=>So.of hh (up (hJ.fr (pas_fr B k) (pasF_ok hJ.ok hkp))))
  ·exact(top_stepW w N X g k B h hJ.ok hkp hnp hQ hJ.tr (by have:=hJ.nf;omega)).mono (fun e w' hh=>So.ofW hh (up (hJ.fr (top_fr B k) (topF_keeps hJ.ok hkp hnp hJ.tr).1)))
  ·refine(tx_stepW w N X g k B h hJ.ok hkp hnp hQ ?_ (by have:=hJ.few hn;omega)).mono (fun e w' hh=>So.ofW hh (up0 (hJ.tx hk (by omega))))
   unfold PI at hp
   omega
theorem run_ki{N:Nat→Prop}{X g n M:Nat}{s:Nat→Nat}(hn:n≤5)(hn0:0<n)(hM:M≤800000000)(B:Br)(w:World)(hQ:∀n,w.heap.size≤n→N n)(h:WB N X g B w)(hK:KI n M s B):
    Calls Tryz.prog 17 #[.pointer (some ⟨X,0,none⟩)] w fun e w'=>∃(k:Nat) (d:Bool) (B':Br),e=.returned (.tuple #[.int .i64 (k:Int),.bool d])∧WB N X g B' w'∧Mut (fun n=>N n) w w'∧KI n (M+50000) s B':=by
 refine(run_rel (n:=n) (fun r B=>r≤1000∧KI n (M+40*r) s B) (fun B=>KI n (M+50000) s B) w hQ B h ⟨by omega,hK⟩ (fun r C w hQ hr hS hw=>?_)).mono ?_
 ·refine(round_rel (rel_ki (M:=M+40*r) hn hn0 (by omega)) hn hn0 C w hQ hw hS.2).mono ?_
  rintro e w' ⟨c,B',hc,he,hB,hm,hJ⟩
  exact⟨c,B',hc,he,hB,hm,fun _=>hJ.2.mono (by omega),fun _=>⟨by omega,hJ.2.mono (by omega)⟩⟩
 ·rintro e w' ⟨k,d,B',he,hB,hm,h1,h2⟩
  refine⟨k,d,B',he,hB,hm,?_⟩
  cases d
  ·exact(h2 rfl).2.mono (by omega)
  ·exact h1 rfl
theorem setr_cell{B:Br}{k j:Nat}{l:List Value}(h:k*89+j+l.length≤B.ps.length)(i:Nat):(B.setr k j l).ps[i]?=if k*89+j≤i∧i<k*89+j+l.length then l[i - (k*89+j)]? else B.ps[i]? :=
 setL_at (L:=B.ps) (j:=k*89+j) (vs:=l) h i
def MT(m:List Value):Prop:=Typed ML m∧∀j,13≤j→j<17→∃z:Int,m[j]?=some (.int .i64 z)∧0≤z∧z≤256
theorem KI.take{n M:Nat}{s:Nat→Nat}{B:Br}(h:KI n M s B)(i:Int){m:List Value}(hm:MT m):KI n M s (takeF B i m).2:=by
 have hok:=takeF_ok h.ok i hm.1
 unfold takeF at hok ⊢
 by_cases h1:0≤i∧i.toNat<B.np
 ·rw [if_pos h1]at hok ⊢
  obtain⟨k,hk⟩:∃k,i.toNat=k:=⟨_,rfl⟩
  rw[hk]at hok h1 ⊢
  split
  ·exact h
  ·rename_i hc
   rw[if_neg hc]at hok
   have hkn:k<n:=by rw[←h.np];exact h1.2
   have h89:=len89 h.ok h1.2
   have hml:m.length=17:=hm.1.1
   have cell:∀i j,j<89→j≠35→(rxTook B k m).ps[i*89+j]?=if i=k∧51≤j∧j<68 then m[j - 51]? else B.ps[i*89+j]?:=fun i j hj hne=>by
    show((B.setr k 51 m).ps.set (k*89+35) _)[i*89+j]?=_
    rw[List.getElem?_set_ne (by omega),setr_cell (by omega)]
    by_cases hik:i=k∧51≤j∧j<68
    ·rw[if_pos (by omega),if_pos hik]
     congr 1
     omega
    ·rw[if_neg (by omega),if_neg hik]
   have gi:∀i j,j<89→j≠35→¬(i=k∧51≤j∧j<68)→(rxTook B k m).gi i j=B.gi i j:=fun i j hj hne hik=>by
    unfold Br.gi
    rw[cell i j hj hne,if_neg hik]
   have gm:∀j,64≤j→j<68→0≤(rxTook B k m).gi k j∧(rxTook B k m).gi k j≤256:=fun j h64 h68=>by
    obtain⟨z,hz,z1,z2⟩:=hm.2 (j - 51) (by omega) (by omega)
    have e:(rxTook B k m).gi k j=z:=by
     unfold Br.gi
     rw[cell k j (by omega) (by omega),if_pos ⟨rfl,by omega,by omega⟩,hz]
    rw[e]
    exact⟨z1,z2⟩
   obtain⟨l,ho,h2,h3⟩:=h.out
   refine⟨hok,h.np,h.hs,h.h13,fun i hi=>?_,⟨l,ho,h2,fun i hi=>?_⟩,h.nf⟩
   ·have hp:=h.pt i hi
    show PI (rxTook B k m) i
    unfold PI at hp ⊢
    rw[gi i 14 (by decide) (by decide) (by omega),gi i 78 (by decide) (by decide) (by omega),gi i 86 (by decide) (by decide) (by omega),gi i 82 (by decide) (by decide) (by omega)]
    by_cases hik:i=k
    ·subst hik
     have g1:=gm 64 (by decide) (by decide)
     have g2:=gm 65 (by decide) (by decide)
     have g3:=gm 66 (by decide) (by decide)
     have g4:=gm 67 (by decide) (by decide)
     omega
    ·rw[gi i 64 (by decide) (by decide) (by omega),gi i 65 (by decide) (by decide) (by omega),gi i 66 (by decide) (by decide) (by omega),gi i 67 (by decide) (by decide) (by omega)]
     exact hp
   ·show((s i+l.count i:Nat):Int)≤(rxTook B k m).gi i 14
    rw[gi i 14 (by decide) (by decide) (by omega)]
    exact h3 i hi
 ·rw[if_neg h1]
  exact h
theorem KI.en{n M:Nat}{s:Nat→Nat}{B:Br}(h:KI n M s B){k:Nat}(hk:k<n)(b:Bool):KI n M s (B.setp k 2 (.bool b)):=by
 have hkp:k<B.np:=by rw[h.np];exact hk
 exact h.fr0 ((Fr.rf _ B).setp (by decide) (by decide)) (h.ok.setB (k:=k) hkp 2 b rfl) rfl
structure Hp where
 f:Int
 t:Int
 c:Int
def Hp.L(h:Hp):List Value:=[.int .i64 h.f,.int .i64 h.t,.int .u32 h.c]
def Hp.ok(n:Nat)(h:Hp):Bool:=decide (0≤h.f) && decide (h.f<n) && decide (0≤h.t) && decide (h.t<n)
theorem rangeR_ext{w w':World}{b off:Nat}{xs:List Value}(h:w.rangeAt b off xs)(hx:Ext w w')(hb:b<w.heap.size):w'.rangeAt b off xs:=fun j v hv=>(hx.cell hb).trans (h j v hv)
theorem own_lt2{w:World}{base size n:Nat}{e:TypeId}{v:Value}{xs:List Value}(h:w.ownsRow base e size v n xs){g:Nat}(hg:v.ownBlock=some g):base≤g∧g<w.heap.size:=by
 rcases h.2 with ⟨rfl,-⟩|⟨g2,cap,cur,rfl,e2,e3,-⟩
 ·simp[Value.ownBlock]at hg
 ·obtain rfl:g2=g:=by simpa[Value.ownBlock]using hg
  exact⟨e2,heap_lt e3⟩
theorem own_form2{w:World}{base m n:Nat}{e:TypeId}{v:Value}{xs:List Value}(h:w.ownsRow base e m v n xs):∃a cap,v=.slice a n cap:=by
 obtain⟨h0,⟨rfl,rfl⟩|⟨g,cap,cur,rfl,hb,hg,hn,hm,hs,ht⟩⟩:=h
 ·exact⟨_,_,rfl⟩
 ·exact⟨_,_,rfl⟩
theorem oper_append_own_at{P:Program}{o:Oper}{a:Act}{w:World}{K:Act→World→Prop}{Q:Exit→Act→World→Prop}(s x:Operand)(t:TypeId)(ho:o.op=.call { callee:=.builtin .append,args:=#[s,x],argTypes:=#[t,t] })(base:Nat)(e:TypeId)(i:TypeInfo)(z:Value)(size bytes:Nat)(ht:P.underlying t=some (.slice e))(hi:P.info? e=some i)(hz:i.zero=some z)(hsize:i.size=size)(hby:i.bytes=bytes)(hzs:z.cells.size=size)(hsz:0<size)(v:Value)(n:Nat)(xs:List Value)(hs:a.eval s=v)(hown:w.ownsRow base e size v n xs)(ad:Addr)(m c:Nat)(news:List Value)(hx:a.eval x=.slice (some ad) m c)(hl:news.length=m*size)(hnews:∀j u,news[j]?=some u→w.cell? (ad.add j)=some u)(h1:∀u∈news,u.oneCell'=true)(h63:n+m≤maxLen)(hbytes:(n+m)*bytes≤140737488355328)(hbase:base≤w.heap.size)(h:∀v' w',w'.ownsRow base e size v' (n+m) (xs++news)→w.grownBy w' v.ownBlock→(v'.ownBlock=v.ownBlock∨v'.ownBlock=some w.heap.size)→K (a.put o.dst v') w'):Oper.wp P o a w K Q:=by
 obtain⟨v',w',hr,h2,h3,h4,h5⟩:=run_append_own_at (P:=P) w base t o.type e i z size bytes ht hi hz hsize hby hzs hsz v n xs hown ad m c news hl hnews h1 h63 hbytes hbase
 unfold Oper.wp execOp
 simp only[ho,resolve,invoke,builtin,Sem.run_bind,Sem.run_pure,Result.andThen_ok,List.map_toArray,List.map_cons,List.map_nil,hs,hx,hr]
 exact h v' w' h2 h3 h5
def Hp.wf(h:Hp):Prop:=(-9223372036854775808≤h.f∧h.f<9223372036854775808)∧(-9223372036854775808≤h.t∧h.t<9223372036854775808)∧0≤h.c∧h.c<4294967296
theorem cell_row{w:World}{g:Nat}{cs:Array Value}{e:TypeId}{fr:Nat × Nat}(h:w.heap[g]?=some (.cells cs e fr))(i:Nat):w.cell? ⟨g,i,none⟩=cs[i]?:=by simp[World.cell?,h]
end Go.Proofs.YtpanapepcbbagaaGreat
