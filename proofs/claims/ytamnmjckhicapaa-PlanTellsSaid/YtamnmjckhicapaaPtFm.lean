/- Part 13 of what PlanVersions stands on. No statement is proved here. -/
import Derived.Laws.FloatArith
import Derived.Laws.Rows
import Derived.DeepKeys5
import Derived.Maps.Own
import Derived.Maps.Views
import Derived.Laws.StructEq
import Derived.Test.YtamnmjckhicapaaPtFl
namespace Go.Proofs.Ytamnmjckhicapaa
open Go.RowKit Go.BigFrame Go.WideShapes Go.ChangeShapes Go.Deep
set_option linter.unusedVariables false
set_option linter.unusedSimpArgs false
set_option maxRecDepth 100000
theorem cut_zero (m d:Nat) (h:d≤(m*2 ^ d).log2+2):Ieee.Toward.zero.cut false (m*2 ^ d) d=m:=by
 unfold Ieee.Toward.cut
 rw [Nat.min_eq_left h,Nat.shiftLeft_eq,Nat.one_mul]
 have hp:0 < 2 ^ d:=Nat.two_pow_pos d
 simp only [Nat.mul_div_cancel _ hp]
 simp
theorem fl_toInt {n:Nat} (h:n < 2 ^ 53):(FloatKind.f64.decode (fl n)).toInt .zero=some (n:Int):=by
 show (Ieee.double.read (fl n)).toInt .zero=_
 by_cases h0:n=0
 ·subst h0
  rw [fl_read0]
  decide
 ·rw [fl_read h0 h]
  have hl:=f_log h0 h
  unfold Ieee.Datum.toInt Ieee.Datum.integral
  have e1:((n.log2:Int) - 52).toNat=0:=by omega
  have e2:(-((n.log2:Int) - 52)).toNat=52 - n.log2:=by omega
  have e3:(n*2 ^ (52 - n.log2)).log2=n.log2+(52 - n.log2):=log2_mul_pow h0 _
  simp only [e1,e2,Nat.shiftLeft_zero,fm]
  rw [cut_zero _ _ (by rw [e3]; omega)]
  rfl
theorem fl_u32 {n:Nat} (h:n < 4294967296):floatToIntVal .f64 (fl n) .u32=some (n:Int):=by
 unfold floatToIntVal
 rw [fl_toInt (by omega)]
 have h1:IntKind.u32.min≤(n:Int)∧(n:Int)≤IntKind.u32.max:=by
  have a:IntKind.u32.min=0:=rfl
  have b:IntKind.u32.max=4294967295:=rfl
  rw [a,b]
  omega
 simp only [h1,and_self,if_true]
theorem fl_max:(4751297606873776128:Nat)=fl 4294967295:=by decide
theorem fl_min {P:Program} (n:Nat) (h:n < 4294967296) (w:World):(Builtin.min2 (.float .f64 (fl n)) (.float .f64 4751297606873776128)).run P w=.ok (.float .f64 (fl n)) w:=by
 unfold Builtin.min2
 have ho:FloatKind.f64.format.order (fl n) 4751297606873776128=some (compare n 4294967295):=by rw [fl_max]; exact f_ord (by omega) (by omega)
 simp only [ho]
 by_cases e:n=4294967295
 ·subst e
  have:compare 4294967295 4294967295=Ordering.eq:=by decide
  simp only [this,← fl_max,ite_self]
  rfl
 ·have:compare n 4294967295=Ordering.lt:=by
   show compareOfLessAndEq n 4294967295=_
   unfold compareOfLessAndEq
   rw [if_pos (by omega)]
  simp only [this]
  rfl
theorem cost_any (c k:Nat) (w:World) (hc:c < 4294967296):Calls Try.prog 22 #[cvW (Option.some (c,k))] w fun e w'=>e=.returned (.int .u32 c)∧w'=w:=by
 have hq:∀ w,(Builtin.min_ #[103,103] 103 #[.float .f64 (fl c),.float .f64 4751297606873776128]).run Try.prog w=.ok (.float .f64 (fl c)) w:=fun w=>by
  unfold Builtin.min_
  simp only [List.foldlM_cons,List.foldlM_nil,Sem.run_bind,fl_min c hc w,Result.andThen_ok,Sem.run_pure]
 have hv:∀ w,(convert 103 54 (.float .f64 (fl c))).run Try.prog w=.ok (.int .u32 (c:Int)) w:=fun w=>run_convert_float_int w 103 54 .f64 .u32 (fl c) c (by rw [Try.underlying103]; rfl) Try.underlying54 (fl_u32 hc)
 unfold cvW
 go_enter Try.func22,Try.ntmps22
 go_wp2_with (first | simp only [hq] | simp only [hv])
 go_ret
 exact ⟨rfl,rfl⟩
end Go.Proofs.Ytamnmjckhicapaa
namespace Go.Proofs.Ytamnmjckhicapaa
open Go.RowKit Go.BigFrame Go.WideShapes Go.ChangeShapes Go.Deep
set_option linter.unusedVariables false
set_option linter.unusedSimpArgs false
set_option maxRecDepth 100000
def cmpI (x y:Int):Int:=if x < y then -1 else if y < x then 1 else 0
theorem cmpI_cases (x y:Int):(x < y∧cmpI x y=-1)∨(¬ x < y∧y < x∧cmpI x y=1)∨(¬ x < y∧¬ y < x∧cmpI x y=0):=by
 unfold cmpI
 by_cases h:x < y
 ·exact .inl ⟨h,by simp [h]⟩
 ·by_cases h2:y < x
  ·exact .inr (.inl ⟨h,h2,by simp [h,h2]⟩)
  ·exact .inr (.inr ⟨h,h2,by simp [h,h2]⟩)
theorem nanu64_any (x:Int) (w:World):Calls Try.prog 76 #[.int .u64 x] w fun e w'=>e=.returned (.bool false)∧w'=w:=by
 go_enter Try.func76,Try.ntmps76
 go_wp2
 go_ret
 exact ⟨by simp,rfl⟩
theorem cmpu64_any (x y:Int) (w:World):Calls Try.prog 60 #[.int .u64 x,.int .u64 y] w fun e w'=>e=.returned (.int .i64 (cmpI x y))∧w'=w:=by
 have HC:=Lib.hid (show (x < y∧cmpI x y=-1)∨(¬ x < y∧y < x∧cmpI x y=1)∨(¬ x < y∧¬ y < x∧cmpI x y=0) from cmpI_cases x y)
 go_enter Try.func60,Try.ntmps60
 go_wp2_with fail
 refine (nanu64_any x _).mono ?_
 rintro e w1 ⟨rfl,rfl⟩
 go_wp2_with fail
 refine (nanu64_any y _).mono ?_
 rintro e w2 ⟨rfl,rfl⟩
 rcases HC.out with ⟨h1,h3⟩ | ⟨h1,h2,h3⟩ | ⟨h1,h2,h3⟩
 ·have d1:decide (x < y)=true:=by simpa using h1
  have H3:=Lib.hid h3
  clear h3 HC
  go_wp2_with fail
  go_ret
  exact ⟨by rw [H3.out]; rfl,rfl⟩
 ·have d1:decide (x < y)=false:=by simpa using h1
  have d2:decide (x > y)=true:=by simpa using h2
  have d3:decide (y < x)=true:=by simpa using h2
  have H3:=Lib.hid h3
  clear h3 HC
  go_wp2_with fail
  go_ret
  exact ⟨by rw [H3.out]; rfl,rfl⟩
 ·have d1:decide (x < y)=false:=by simpa using h1
  have d2:decide (x > y)=false:=by simpa using h2
  have d3:decide (y < x)=false:=by simpa using h2
  have H3:=Lib.hid h3
  clear h3 HC
  go_wp2_with fail
  go_ret
  exact ⟨by rw [H3.out]; rfl,rfl⟩
theorem nanu16_any (x:Int) (w:World):Calls Try.prog 77 #[.int .u16 x] w fun e w'=>e=.returned (.bool false)∧w'=w:=by
 go_enter Try.func77,Try.ntmps77
 go_wp2
 go_ret
 exact ⟨by simp,rfl⟩
theorem cmpu16_any (x y:Int) (w:World):Calls Try.prog 62 #[.int .u16 x,.int .u16 y] w fun e w'=>e=.returned (.int .i64 (cmpI x y))∧w'=w:=by
 have HC:=Lib.hid (show (x < y∧cmpI x y=-1)∨(¬ x < y∧y < x∧cmpI x y=1)∨(¬ x < y∧¬ y < x∧cmpI x y=0) from cmpI_cases x y)
 go_enter Try.func62,Try.ntmps62
 go_wp2_with fail
 refine (nanu16_any x _).mono ?_
 rintro e w1 ⟨rfl,rfl⟩
 go_wp2_with fail
 refine (nanu16_any y _).mono ?_
 rintro e w2 ⟨rfl,rfl⟩
 rcases HC.out with ⟨h1,h3⟩ | ⟨h1,h2,h3⟩ | ⟨h1,h2,h3⟩
 ·have d1:decide (x < y)=true:=by simpa using h1
  have H3:=Lib.hid h3
  clear h3 HC
  go_wp2_with fail
  go_ret
  exact ⟨by rw [H3.out]; rfl,rfl⟩
 ·have d1:decide (x < y)=false:=by simpa using h1
  have d2:decide (x > y)=true:=by simpa using h2
  have d3:decide (y < x)=true:=by simpa using h2
  have H3:=Lib.hid h3
  clear h3 HC
  go_wp2_with fail
  go_ret
  exact ⟨by rw [H3.out]; rfl,rfl⟩
 ·have d1:decide (x < y)=false:=by simpa using h1
  have d2:decide (x > y)=false:=by simpa using h2
  have d3:decide (y < x)=false:=by simpa using h2
  have H3:=Lib.hid h3
  clear h3 HC
  go_wp2_with fail
  go_ret
  exact ⟨by rw [H3.out]; rfl,rfl⟩
theorem cmp_gt (n m:Nat):(some (compare n m) == some Ordering.gt)=decide (m < n):=by
 show ((some (compareOfLessAndEq n m)) == some Ordering.gt)=_
 unfold compareOfLessAndEq
 rcases Nat.lt_trichotomy n m with h | h | h
 ·rw [if_pos h,decide_eq_false (by omega)]; rfl
 ·subst h; rw [if_neg (by omega),if_pos rfl,decide_eq_false (by omega)]; rfl
 ·rw [if_neg (by omega),if_neg (by omega),decide_eq_true h]; rfl
theorem nanf_any (n:Nat) (w:World) (h:n < 2 ^ 53):Calls Try.prog 75 #[.float .f64 (fl n)] w fun e w'=>e=.returned (.bool false)∧w'=w:=by
 have h1:(FloatKind.f64.format.order (fl n) (fl n) == some Ordering.eq)=true:=by rw [f_ord h h,cmp_eq]; simp
 have h2:(FloatKind.f64.format.order (fl n) (fl n) != some Ordering.eq)=false:=by rw [bne,h1]; rfl
 go_enter Try.func75,Try.ntmps75
 go_wp2
 go_ret
 exact ⟨by simp,rfl⟩
theorem cmpf_any (x y:Nat) (w:World) (hx:x < 2 ^ 53) (hy:y < 2 ^ 53):Calls Try.prog 59 #[.float .f64 (fl x),.float .f64 (fl y)] w fun e w'=>e=.returned (.int .i64 (cmpI x y))∧w'=w:=by
 have HC:=Lib.hid (show ((x:Int) < y∧cmpI x y=-1)∨(¬ (x:Int) < y∧(y:Int) < x∧cmpI x y=1)∨(¬ (x:Int) < y∧¬ (y:Int) < x∧cmpI x y=0) from cmpI_cases x y)
 have g1:(FloatKind.f64.format.order (fl x) (fl y) == some Ordering.lt)=decide (x < y):=by rw [f_ord hx hy,cmp_lt]
 have g2:(FloatKind.f64.format.order (fl x) (fl y) == some Ordering.gt)=decide (y < x):=by rw [f_ord hx hy,cmp_gt]
 go_enter Try.func59,Try.ntmps59
 go_wp2_with fail
 refine (nanf_any x _ hx).mono ?_
 rintro e w1 ⟨rfl,rfl⟩
 go_wp2_with fail
 refine (nanf_any y _ hy).mono ?_
 rintro e w2 ⟨rfl,rfl⟩
 rcases HC.out with ⟨h1,h3⟩ | ⟨h1,h2,h3⟩ | ⟨h1,h2,h3⟩
 ·rw [decide_eq_true (by omega)] at g1
  rw [decide_eq_false (by omega)] at g2
  have H3:=Lib.hid h3
  clear h3 HC h1
  go_wp2_with fail
  go_ret
  exact ⟨by rw [H3.out]; rfl,rfl⟩
 ·rw [decide_eq_false (by omega)] at g1
  rw [decide_eq_true (by omega)] at g2
  have H3:=Lib.hid h3
  clear h3 HC h1 h2
  go_wp2_with fail
  go_ret
  exact ⟨by rw [H3.out]; rfl,rfl⟩
 ·rw [decide_eq_false (by omega)] at g1
  rw [decide_eq_false (by omega)] at g2
  have H3:=Lib.hid h3
  clear h3 HC h1 h2
  go_wp2_with fail
  go_ret
  exact ⟨by rw [H3.out]; rfl,rfl⟩
def orI:List Int→Int
 | []=>0
 | x :: l=>if x=0 then orI l else x
theorem orI_drop (l:List Int) (i:Nat) (h:i < l.length):orI (l.drop i)=if at0 l i=0 then orI (l.drop (i+1)) else at0 l i:=by
 rw [List.drop_eq_getElem_cons h]
 have:at0 l i=l[i]:=by simp [at0,List.getD,h]
 rw [this]
 rfl
set_option maxRecDepth 100000 in
set_option maxHeartbeats 4000000 in
theorem or_any (g n:Nat) (l:List Int) (w:World) (h:Nums w g l) (hl:l.length=n) (hn:n≤1000):Calls Try.prog 58 #[.slice (some ⟨g,0,none⟩) n n] w fun e w'=>e=.returned (.int .i64 (orI l))∧w'=w:=by
 have HH:=Lib.hid h
 have HL:=Lib.hid hl
 clear h hl
 go_enter Try.func58,Try.ntmps58
 go_wp2_with fail
 go_loopw [8] (fun s wr=>∃ (i:Nat),s=.int .i64 i∧i≤n∧orI l=orI (l.drop i)∧wr=w) (fun s _=>n - (intOf s).toNat)
 case atStart=>exact ⟨0,rfl,by omega,by simp,rfl⟩
 case round =>
  obtain ⟨i,rfl,hi,ho,hwr⟩:=hrel
  subst hwr
  rename World=>wz
  have HO:=Lib.hid ho
  clear ho
  by_cases hlt:i < n
  ·have dlt:decide ((i:Int) < (n:Int))=true:=by simp; omega
   have hup:IntKind.i64.wrap ((i:Int)+1)=((i+1:Nat):Int):=by rw [IntKind.wrap_i64]; omega
   have HS:=Lib.hid (orI_drop l i (by rw [HL.out]; exact hlt))
   obtain ⟨z,hz⟩:∃ z,at0 l i=z:=⟨_,rfl⟩
   have ci:wz.cell? ⟨g,i,none⟩=some (.int .i64 z):=by rw [← hz]; exact HH.out.cell (by rw [HL.out]; exact hlt)
   rw [hz] at HS
   clear hz
   by_cases hz0:z=0
   ·have HS1:=Lib.hid (show orI l=orI (l.drop (i+1)) from by rw [HO.out,HS.out,if_pos hz0])
    subst hz0
    clear HS HO
    go_wp2_with fail
    go_roundw
    case rel=>exact ⟨i+1,by go_num,by omega,HS1.out,by trivial⟩
    case measure=>simp [intOf] <;> omega
   ·have HS1:=Lib.hid (show orI l=z from by rw [HO.out,HS.out,if_neg hz0])
    have dz:decide (z=0)=false:=by simpa using hz0
    have bz:(z == 0)=false:=by simpa using hz0
    clear HS HO
    go_wp2_with fail
    go_ret
    exact ⟨by rw [HS1.out]; rfl,rfl⟩
  ·have dlt:decide ((i:Int) < (n:Int))=false:=by simp; omega
   have HS1:=Lib.hid (show orI l=0 from by rw [HO.out,List.drop_of_length_le (by rw [HL.out]; omega)]; rfl)
   clear HO
   go_wp2_with fail
   go_ret
   exact ⟨by rw [HS1.out]; rfl,rfl⟩
end Go.Proofs.Ytamnmjckhicapaa
namespace Go.Proofs.Ytamnmjckhicapaa
open Go.RowKit Go.BigFrame Go.WideShapes Go.ChangeShapes Go.Deep
set_option linter.unusedVariables false
set_option linter.unusedSimpArgs false
set_option maxRecDepth 100000
set_option maxRecDepth 100000 in
set_option maxHeartbeats 4000000 in
theorem vbridge_any (t0 t1 t2 t3 hold room age:Int) (nb no n ncap p q:Nat) (sv rv fv mv bv:Value) (N:List Nd) (w:World) (hN:NodesAt w (.slice (some ⟨nb,no,none⟩) n ncap) N) (hnl:N.length=n) (hp:p < n) :
    Calls Try.prog 61 #[(.agg #[.int .i64 t0,.int .i64 t1,.int .i64 t2,.int .i64 t3,.int .i64 hold,.int .i64 room,.int .i64 age,.slice (some ⟨nb,no,none⟩) n ncap,sv,rv,fv,mv,bv]),(.agg #[.int .i64 (p:Int),.int .i64 (q:Int)])] w fun e w'=>e=.returned (.int .u64 (idA N p))∧Ext w w':=by
 obtain ⟨pv,⟨na,nc,hne,hnm,hnf⟩,hpt⟩:=hN
 obtain ⟨nb',no',rfl,hnb,hnc,hnc2,hn4⟩:=hnf (by omega)
 simp only [Value.slice.injEq,Option.some.injEq,Addr.mk.injEq] at hne
 obtain ⟨⟨rfl,rfl,-⟩,-,rfl⟩:=hne
 rw [hnl] at hnc hnm
 have hnr:=range_one (hn4 p (by omega)) (j:=0) rfl
 rw [Nat.add_zero] at hnr
 have HNB:=Lib.hid hnb
 have HNR:=Lib.hid (show w.cell? ⟨nb,no+p*3,none⟩=some (.int .u64 (idA N p)) from hnr)
 obtain ⟨z,hz⟩:∃ z,idA N p=z:=⟨_,rfl⟩
 rw [hz] at HNR ⊢
 clear hnb hnr hn4 hnf hpt hnl hz
 go_enter Try.func61,Try.ntmps61
 go_wp2_with (first
  | fail
  | ((with_reducible refine at_box 79 ?_); refine bx_row rfl 79 _ rfl #[.int .i64 t0,.int .i64 t1,.int .i64 t2,.int .i64 t3,.int .i64 hold,.int .i64 room,.int .i64 age,.slice (some ⟨nb,no,none⟩) n ncap,sv,rv,fv,mv,bv] rfl ?_
     intro X wa hX hsz hx1
     have HX:=Lib.hid (show BoxAt wa X #[.int .i64 t0,.int .i64 t1,.int .i64 t2,.int .i64 t3,.int .i64 hold,.int .i64 room,.int .i64 age,.slice (some ⟨nb,no,none⟩) n ncap,sv,rv,fv,mv,bv] 79 from hX)
     have HE:=Lib.hid hx1
     clear hX hsz hx1)
  | ((with_reducible refine at_box 58 ?_); refine bx_row rfl 58 _ rfl #[.int .i64 (p:Int),.int .i64 (q:Int)] rfl ?_
     intro Y wb hY hsz hx2
     have HY:=Lib.hid (show BoxAt wb Y #[.int .i64 (p:Int),.int .i64 (q:Int)] 58 from hY)
     have HX2:=Lib.hid (HX.out.ext hx2)
     have HE2:=Lib.hid (HE.out.trans hx2)
     have c1:wb.cell? ⟨X,7,none⟩=some (.slice (some ⟨nb,no,none⟩) n ncap):=HX2.out.cell 7 rfl
     have c2:wb.cell? ⟨Y,0,none⟩=some (.int .i64 (p:Int)):=HY.out.cell 0 rfl
     have c3:wb.cell? ⟨nb,no+p*3,none⟩=some (.int .u64 z):=(HE2.out.cell HNB.out).trans HNR.out
     clear hY hsz hx2))
 go_ret
 exact ⟨rfl,HE2.out⟩
set_option maxRecDepth 100000 in
set_option maxHeartbeats 4000000 in
theorem vport_any (t0 t1 t2 t3 hold room age:Int) (nb no n ncap p q:Nat) (sv rv fv mv bv:Value) (N:List Nd) (w:World) (hN:NodesAt w (.slice (some ⟨nb,no,none⟩) n ncap) N) (hnl:N.length=n) (hp:p < n) (hq:q < (N.getD p default).ports.length) :
    Calls Try.prog 63 #[(.agg #[.int .i64 t0,.int .i64 t1,.int .i64 t2,.int .i64 t3,.int .i64 hold,.int .i64 room,.int .i64 age,.slice (some ⟨nb,no,none⟩) n ncap,sv,rv,fv,mv,bv]),(.agg #[.int .i64 (p:Int),.int .i64 (q:Int)])] w fun e w'=>e=.returned (.int .u16 ((N.getD p default).ports.getD q default).pid)∧Ext w w':=by
 obtain ⟨pv,⟨na,nc,hne,hnm,hnf⟩,hpt⟩:=hN
 obtain ⟨nb',no',rfl,hnb,hnc,hnc2,hn4⟩:=hnf (by omega)
 simp only [Value.slice.injEq,Option.some.injEq,Addr.mk.injEq] at hne
 obtain ⟨⟨rfl,rfl,-⟩,-,rfl⟩:=hne
 obtain ⟨pa,pcap,hpe,hpm,hpf⟩:=hpt p (by omega)
 obtain ⟨pb,po,rfl,hpb,hpc,hpc2,hp4⟩:=hpf (by omega)
 rw [hnl] at hnc hnm
 have hnr:w.rangeAt nb (no+p*3) [.int .u64 (N.getD p default).id,.bool (N.getD p default).rst,pv p]:=hn4 p (by omega)
 have hpr:w.rangeAt pb (po+q*5) ((N.getD p default).ports.getD q default).L:=hp4 q hq
 obtain ⟨m,hm⟩:∃ m,(N.getD p default).ports.length=m:=⟨_,rfl⟩
 obtain ⟨pt,hpt2⟩:∃ x,(N.getD p default).ports.getD q default=x:=⟨_,rfl⟩
 rw [hpe,hm] at hnr
 rw [hpt2] at hpr ⊢
 rw [hm] at hq hpc
 have HNB:=Lib.hid hnb
 have HNR:=Lib.hid hnr
 have HPB:=Lib.hid hpb
 have HPR:=Lib.hid hpr
 clear hnb hnr hpb hpr hn4 hp4 hnf hpf hpt hpe hm hpt2 hnl
 go_enter Try.func63,Try.ntmps63
 go_wp2_with (first
  | fail
  | ((with_reducible refine at_box 79 ?_); refine bx_row rfl 79 _ rfl #[.int .i64 t0,.int .i64 t1,.int .i64 t2,.int .i64 t3,.int .i64 hold,.int .i64 room,.int .i64 age,.slice (some ⟨nb,no,none⟩) n ncap,sv,rv,fv,mv,bv] rfl ?_
     intro X wa hX hsz hx1
     have HX:=Lib.hid (show BoxAt wa X #[.int .i64 t0,.int .i64 t1,.int .i64 t2,.int .i64 t3,.int .i64 hold,.int .i64 room,.int .i64 age,.slice (some ⟨nb,no,none⟩) n ncap,sv,rv,fv,mv,bv] 79 from hX)
     have HE:=Lib.hid hx1
     clear hX hsz hx1)
  | ((with_reducible refine at_box 58 ?_); refine bx_row rfl 58 _ rfl #[.int .i64 (p:Int),.int .i64 (q:Int)] rfl ?_
     intro Y wb hY hsz hx2
     have HY:=Lib.hid (show BoxAt wb Y #[.int .i64 (p:Int),.int .i64 (q:Int)] 58 from hY)
     have HX2:=Lib.hid (HX.out.ext hx2)
     have HE2:=Lib.hid (HE.out.trans hx2)
     clear hY hsz hx2))
 refine beginL (S:=fun W'=>Ext wb W') (by kernel_rfl) ?_
 intro wd hqx
 have hq0:Ext wb wd:=hqx
 refine tLp 0 ((.pointer (some ⟨X,0,none⟩))) rfl hq0 ?_
 simp only [ps]
 refine tLp 1 ((.pointer (some ⟨X,7,none⟩))) rfl hq0 ?_
 simp only [ps]
 refine tL 2 (_) rfl (yieldsIf_cell rfl 44 _ rfl ⟨X,7,none⟩ rfl (.slice (some ⟨nb,no,none⟩) n ncap) _ (fun W' hW'=>(HX2.out.ext hW').cell 7 rfl) Try.underlying44 rfl) hq0 ?_
 simp only [ps]
 refine tLp 3 ((.pointer (some ⟨Y,0,none⟩))) rfl hq0 ?_
 simp only [ps]
 refine tL 4 (_) rfl (yieldsIf_cell rfl 3 _ rfl ⟨Y,0,none⟩ rfl (.int .i64 (p:Int)) _ (fun W' hW'=>(HY.out.ext hW').cell 0 rfl) Try.underlying3 rfl) hq0 ?_
 simp only [ps]
 refine tL 5 ((.pointer (some ⟨nb,no+p*3,none⟩))) rfl (Or.inl ⟨rfl,fun W' _=>by go_simp <;> (intro h; omega)⟩) hq0 ?_
 simp only [ps]
 refine tLp 6 ((.pointer (some ⟨nb,no+p*3+2,none⟩))) rfl hq0 ?_
 simp only [ps]
 refine tL 7 (_) rfl (yieldsIf_cell rfl 80 _ rfl ⟨nb,no+p*3+2,none⟩ rfl (.slice (some ⟨pb,po,none⟩) m pcap) _ (fun W' hW'=>((HE2.out.trans hW').cell HNB.out).trans (range_one HNR.out (j:=2) rfl)) Try.underlying80 rfl) hq0 ?_
 simp only [ps]
 refine tLp 8 ((.pointer (some ⟨Y,1,none⟩))) rfl hq0 ?_
 simp only [ps]
 refine tL 9 (_) rfl (yieldsIf_cell rfl 3 _ rfl ⟨Y,1,none⟩ rfl (.int .i64 (q:Int)) _ (fun W' hW'=>(HY.out.ext hW').cell 1 rfl) Try.underlying3 rfl) hq0 ?_
 simp only [ps]
 refine tL 10 ((.pointer (some ⟨pb,po+q*5,none⟩))) rfl (Or.inl ⟨rfl,fun W' _=>by go_simp <;> (intro h; omega)⟩) hq0 ?_
 simp only [ps]
 refine tLp 11 ((.pointer (some ⟨pb,po+q*5,none⟩))) rfl hq0 ?_
 simp only [ps]
 refine tL 12 (_) rfl (yieldsIf_cell rfl 65 _ rfl ⟨pb,po+q*5,none⟩ rfl (.int .u16 pt.pid) _ (fun W' hW'=>((HE2.out.trans hW').cell HPB.out).trans (range_one HPR.out (j:=0) rfl)) Try.underlying65 rfl) hq0 ?_
 simp only [ps]
 refine tLp 13 ((.int .u16 pt.pid)) rfl hq0 ?_
 simp only [ps]
 refine wpAnyH_done (by kernel_rfl) ?_ _
 have HE3:=Lib.hid (HE2.out.trans hq0)
 clear hqx hq0
 go_wp2_with fail
 go_ret
 exact ⟨rfl,HE3.out⟩
set_option maxRecDepth 100000 in
set_option maxHeartbeats 4000000 in
theorem vcost_any (t0 t1 t2 t3 hold room age:Int) (nb no n ncap p q:Nat) (sv rv fv mv bv:Value) (N:List Nd) (w:World) (hN:NodesAt w (.slice (some ⟨nb,no,none⟩) n ncap) N) (hnl:N.length=n) (hp:p < n) (hq:q < (N.getD p default).ports.length) :
    Calls Try.prog 64 #[(.agg #[.int .i64 t0,.int .i64 t1,.int .i64 t2,.int .i64 t3,.int .i64 hold,.int .i64 room,.int .i64 age,.slice (some ⟨nb,no,none⟩) n ncap,sv,rv,fv,mv,bv]),(.agg #[.int .i64 (p:Int),.int .i64 (q:Int)])] w fun e w'=>e=.returned (.int .u32 ((N.getD p default).ports.getD q default).cost)∧Ext w w':=by
 obtain ⟨pv,⟨na,nc,hne,hnm,hnf⟩,hpt⟩:=hN
 obtain ⟨nb',no',rfl,hnb,hnc,hnc2,hn4⟩:=hnf (by omega)
 simp only [Value.slice.injEq,Option.some.injEq,Addr.mk.injEq] at hne
 obtain ⟨⟨rfl,rfl,-⟩,-,rfl⟩:=hne
 obtain ⟨pa,pcap,hpe,hpm,hpf⟩:=hpt p (by omega)
 obtain ⟨pb,po,rfl,hpb,hpc,hpc2,hp4⟩:=hpf (by omega)
 rw [hnl] at hnc hnm
 have hnr:w.rangeAt nb (no+p*3) [.int .u64 (N.getD p default).id,.bool (N.getD p default).rst,pv p]:=hn4 p (by omega)
 have hpr:w.rangeAt pb (po+q*5) ((N.getD p default).ports.getD q default).L:=hp4 q hq
 obtain ⟨m,hm⟩:∃ m,(N.getD p default).ports.length=m:=⟨_,rfl⟩
 obtain ⟨pt,hpt2⟩:∃ x,(N.getD p default).ports.getD q default=x:=⟨_,rfl⟩
 rw [hpe,hm] at hnr
 rw [hpt2] at hpr ⊢
 rw [hm] at hq hpc
 have HNB:=Lib.hid hnb
 have HNR:=Lib.hid hnr
 have HPB:=Lib.hid hpb
 have HPR:=Lib.hid hpr
 clear hnb hnr hpb hpr hn4 hp4 hnf hpf hpt hpe hm hpt2 hnl
 go_enter Try.func64,Try.ntmps64
 go_wp2_with (first
  | fail
  | ((with_reducible refine at_box 79 ?_); refine bx_row rfl 79 _ rfl #[.int .i64 t0,.int .i64 t1,.int .i64 t2,.int .i64 t3,.int .i64 hold,.int .i64 room,.int .i64 age,.slice (some ⟨nb,no,none⟩) n ncap,sv,rv,fv,mv,bv] rfl ?_
     intro X wa hX hsz hx1
     have HX:=Lib.hid (show BoxAt wa X #[.int .i64 t0,.int .i64 t1,.int .i64 t2,.int .i64 t3,.int .i64 hold,.int .i64 room,.int .i64 age,.slice (some ⟨nb,no,none⟩) n ncap,sv,rv,fv,mv,bv] 79 from hX)
     have HE:=Lib.hid hx1
     clear hX hsz hx1)
  | ((with_reducible refine at_box 58 ?_); refine bx_row rfl 58 _ rfl #[.int .i64 (p:Int),.int .i64 (q:Int)] rfl ?_
     intro Y wb hY hsz hx2
     have HY:=Lib.hid (show BoxAt wb Y #[.int .i64 (p:Int),.int .i64 (q:Int)] 58 from hY)
     have HX2:=Lib.hid (HX.out.ext hx2)
     have HE2:=Lib.hid (HE.out.trans hx2)
     clear hY hsz hx2))
 refine beginL (S:=fun W'=>Ext wb W') (by kernel_rfl) ?_
 intro wd hqx
 have hq0:Ext wb wd:=hqx
 refine tLp 0 ((.pointer (some ⟨X,0,none⟩))) rfl hq0 ?_
 simp only [ps]
 refine tLp 1 ((.pointer (some ⟨X,7,none⟩))) rfl hq0 ?_
 simp only [ps]
 refine tL 2 (_) rfl (yieldsIf_cell rfl 44 _ rfl ⟨X,7,none⟩ rfl (.slice (some ⟨nb,no,none⟩) n ncap) _ (fun W' hW'=>(HX2.out.ext hW').cell 7 rfl) Try.underlying44 rfl) hq0 ?_
 simp only [ps]
 refine tLp 3 ((.pointer (some ⟨Y,0,none⟩))) rfl hq0 ?_
 simp only [ps]
 refine tL 4 (_) rfl (yieldsIf_cell rfl 3 _ rfl ⟨Y,0,none⟩ rfl (.int .i64 (p:Int)) _ (fun W' hW'=>(HY.out.ext hW').cell 0 rfl) Try.underlying3 rfl) hq0 ?_
 simp only [ps]
 refine tL 5 ((.pointer (some ⟨nb,no+p*3,none⟩))) rfl (Or.inl ⟨rfl,fun W' _=>by go_simp <;> (intro h; omega)⟩) hq0 ?_
 simp only [ps]
 refine tLp 6 ((.pointer (some ⟨nb,no+p*3+2,none⟩))) rfl hq0 ?_
 simp only [ps]
 refine tL 7 (_) rfl (yieldsIf_cell rfl 80 _ rfl ⟨nb,no+p*3+2,none⟩ rfl (.slice (some ⟨pb,po,none⟩) m pcap) _ (fun W' hW'=>((HE2.out.trans hW').cell HNB.out).trans (range_one HNR.out (j:=2) rfl)) Try.underlying80 rfl) hq0 ?_
 simp only [ps]
 refine tLp 8 ((.pointer (some ⟨Y,1,none⟩))) rfl hq0 ?_
 simp only [ps]
 refine tL 9 (_) rfl (yieldsIf_cell rfl 3 _ rfl ⟨Y,1,none⟩ rfl (.int .i64 (q:Int)) _ (fun W' hW'=>(HY.out.ext hW').cell 1 rfl) Try.underlying3 rfl) hq0 ?_
 simp only [ps]
 refine tL 10 ((.pointer (some ⟨pb,po+q*5,none⟩))) rfl (Or.inl ⟨rfl,fun W' _=>by go_simp <;> (intro h; omega)⟩) hq0 ?_
 simp only [ps]
 refine tLp 11 ((.pointer (some ⟨pb,po+q*5+1,none⟩))) rfl hq0 ?_
 simp only [ps]
 refine tL 12 (_) rfl (yieldsIf_cell rfl 54 _ rfl ⟨pb,po+q*5+1,none⟩ rfl (.int .u32 pt.cost) _ (fun W' hW'=>((HE2.out.trans hW').cell HPB.out).trans (range_one HPR.out (j:=1) rfl)) Try.underlying54 rfl) hq0 ?_
 simp only [ps]
 refine tLp 13 ((.int .u32 pt.cost)) rfl hq0 ?_
 simp only [ps]
 refine wpAnyH_done (by kernel_rfl) ?_ _
 have HE3:=Lib.hid (HE2.out.trans hq0)
 clear hqx hq0
 go_wp2_with fail
 go_ret
 exact ⟨rfl,HE3.out⟩
end Go.Proofs.Ytamnmjckhicapaa
namespace Go.Proofs.Ytamnmjckhicapaa
open Go.RowKit Go.BigFrame Go.WideShapes Go.ChangeShapes Go.Deep
set_option linter.unusedVariables false
set_option linter.unusedSimpArgs false
set_option maxRecDepth 100000
theorem size_view:(Try.prog.info? 79).map (·.size)=some 13:=by kernel_rfl
theorem cmpf_ext (x y:Nat) (w:World) (hx:x < 2 ^ 53) (hy:y < 2 ^ 53):Calls Try.prog 59 #[.float .f64 (fl x),.float .f64 (fl y)] w fun e w'=>e=.returned (.int .i64 (cmpI x y))∧Ext w w':=(cmpf_any x y w hx hy).mono fun e w' ⟨h,h2⟩=>⟨h,h2 ▸ Ext.refl w⟩
theorem cmpu64_ext (x y:Int) (w:World):Calls Try.prog 60 #[.int .u64 x,.int .u64 y] w fun e w'=>e=.returned (.int .i64 (cmpI x y))∧Ext w w':=(cmpu64_any x y w).mono fun e w' ⟨h,h2⟩=>⟨h,h2 ▸ Ext.refl w⟩
theorem cmpu16_ext (x y:Int) (w:World):Calls Try.prog 62 #[.int .u16 x,.int .u16 y] w fun e w'=>e=.returned (.int .i64 (cmpI x y))∧Ext w w':=(cmpu16_any x y w).mono fun e w' ⟨h,h2⟩=>⟨h,h2 ▸ Ext.refl w⟩
theorem or_ext (g n:Nat) (l:List Int) (w:World) (h:Nums w g l) (hl:l.length=n) (hn:n≤1000):Calls Try.prog 58 #[.slice (some ⟨g,0,none⟩) n n] w fun e w'=>e=.returned (.int .i64 (orI l))∧Ext w w':=(or_any g n l w h hl hn).mono fun e w' ⟨h,h2⟩=>⟨h,h2 ▸ Ext.refl w⟩
def ptA (N:List Nd) (p q:Nat):Pt:=(N.getD p default).ports.getD q default
def costW (D:List Way) (p:Nat):Nat:=match D.getD p Option.none with | .some x=>x.1 | .none=>0
def offerF (N:List Nd) (D:List Way) (p q r s more than:Nat):Int:=orI [cmpI ((costW D p+more:Nat):Int) ((costW D r+than:Nat):Int),cmpI (idA N p) (idA N r),cmpI (ptA N p q).pid (ptA N r s).pid]
set_option maxRecDepth 100000 in
set_option maxHeartbeats 8000000 in
theorem offer_any (t0 t1 t2 t3 hold room age:Int) (nb no n ncap gf p q r s more than:Nat) (sv rv mv bv:Value) (N:List Nd) (D:List Way) (w:World) (hN:NodesAt w (.slice (some ⟨nb,no,none⟩) n ncap) N) (hnl:N.length=n) (hn5:n≤5) (hD:WRow w gf D) (hdl:D.length=n)
    (hp:p < n) (hq:q < (N.getD p default).ports.length) (hr:r < n) (hs:s < (N.getD r default).ports.length) (hdp:∃ x,D.getD p Option.none=Option.some x∧x.1 < 4294967296) (hdr:∃ x,D.getD r Option.none=Option.some x∧x.1 < 4294967296) (hm:more < 4294967296) (ht:than < 4294967296) :
    Calls Try.prog 40 #[(.agg #[.int .i64 t0,.int .i64 t1,.int .i64 t2,.int .i64 t3,.int .i64 hold,.int .i64 room,.int .i64 age,.slice (some ⟨nb,no,none⟩) n ncap,sv,rv,.slice (some ⟨gf,0,none⟩) n n,mv,bv]),(.agg #[.int .i64 (p:Int),.int .i64 (q:Int)]),(.agg #[.int .i64 (r:Int),.int .i64 (s:Int)]),.int .u32 (more:Int),.int .u32 (than:Int)] w fun e w'=>e=.returned (.int .i64 (offerF N D p q r s more than))∧Ext w w':=by
 obtain ⟨i3,hi3,hz3,hs3,hb3⟩:=info_parts info_int
 have I3:=Lib.hid (And.intro hi3 (And.intro hz3 (And.intro hs3 hb3)))
 obtain ⟨⟨ca,ha⟩,hca,hca2⟩:=hdp
 obtain ⟨⟨cb,hb⟩,hcb,hcb2⟩:=hdr
 have HCA:=Lib.hid (show w.cell? ⟨gf,p,none⟩=some (.complex .f64 (fl ca) (fl ha)) from by have h:=far_cell hD hdl hp; rw [hca] at h; exact h)
 have HCB:=Lib.hid (show w.cell? ⟨gf,r,none⟩=some (.complex .f64 (fl cb) (fl hb)) from by have h:=far_cell hD hdl hr; rw [hcb] at h; exact h)
 have HGF:=Lib.hid (heap_lt hD)
 have hF1:ca+more < 2 ^ 53:=by have h1:ca < 4294967296:=hca2; omega
 have hF2:cb+than < 2 ^ 53:=by have h1:cb < 4294967296:=hcb2; omega
 have hm1:floatOfInt .f64 (more:Int)=fl more:=by rw [f_int (by omega)]; rfl
 have hm2:floatOfInt .f64 (than:Int)=fl than:=by rw [f_int (by omega)]; rfl
 have ha1:∀ w,(binOp .add 103 (.float .f64 (fl ca)) (.float .f64 (fl more))).run Try.prog w=.ok (.float .f64 (fl (ca+more))) w:=fun w=>run_float_arith w .add 103 .f64 _ _ _ (f_add hF1)
 have ha2:∀ w,(binOp .add 103 (.float .f64 (fl cb)) (.float .f64 (fl than))).run Try.prog w=.ok (.float .f64 (fl (cb+than))) w:=fun w=>run_float_arith w .add 103 .f64 _ _ _ (f_add hF2)
 have HF1:=Lib.hid hF1
 have HF2:=Lib.hid hF2
 have HN:=Lib.hid hN
 have HNL:=Lib.hid hnl
 have HPp:=Lib.hid hp
 have HPr:=Lib.hid hr
 have HQp:=Lib.hid hq
 have HQr:=Lib.hid hs
 have hres:offerF N D p q r s more than=orI [cmpI ((ca+more:Nat):Int) ((cb+than:Nat):Int),cmpI (idA N p) (idA N r),cmpI (ptA N p q).pid (ptA N r s).pid]:=by unfold offerF costW; rw [hca,hcb]
 rw [hres]
 clear hi3 hz3 hs3 hb3 hca hcb hca2 hcb2 hD hdl hF1 hF2 hN hnl hq hs hm ht hres
 go_enter Try.func40,Try.ntmps40
 go_wp2_with (first
  | fail
  | ((with_reducible refine at_box 79 ?_); refine bx_row rfl 79 _ rfl #[.int .i64 t0,.int .i64 t1,.int .i64 t2,.int .i64 t3,.int .i64 hold,.int .i64 room,.int .i64 age,.slice (some ⟨nb,no,none⟩) n ncap,sv,rv,.slice (some ⟨gf,0,none⟩) n n,mv,bv] rfl ?_
     intro X w1 hX hsz hx1
     have HX1:=Lib.hid (show BoxAt w1 X #[.int .i64 t0,.int .i64 t1,.int .i64 t2,.int .i64 t3,.int .i64 hold,.int .i64 room,.int .i64 age,.slice (some ⟨nb,no,none⟩) n ncap,sv,rv,.slice (some ⟨gf,0,none⟩) n n,mv,bv] 79 from hX)
     have HE1:=Lib.hid hx1
     clear hX hsz hx1)
  | ((with_reducible refine at_box 58 ?_); refine bx_row rfl 58 _ rfl #[.int .i64 (p:Int),.int .i64 (q:Int)] rfl ?_
     intro Y w2 hY hsz hx2
     have HY2:=Lib.hid (show BoxAt w2 Y #[.int .i64 (p:Int),.int .i64 (q:Int)] 58 from hY)
     have HX2:=Lib.hid (HX1.out.ext hx2)
     have HE2:=Lib.hid (HE1.out.trans hx2)
     clear hY hsz hx2)
  | ((with_reducible refine at_box 58 ?_); refine bx_row rfl 58 _ rfl #[.int .i64 (r:Int),.int .i64 (s:Int)] rfl ?_
     intro Z wb hZ hsz hx3
     have HZ:=Lib.hid (show BoxAt wb Z #[.int .i64 (r:Int),.int .i64 (s:Int)] 58 from hZ)
     have HX:=Lib.hid (HX2.out.ext hx3)
     have HY:=Lib.hid (HY2.out.ext hx3)
     have HE:=Lib.hid (HE2.out.trans hx3)
     clear hZ hsz hx3 HX1 HE1 HY2 HX2 HE2))
 refine beginL (S:=fun W'=>Ext wb W') (by kernel_rfl) ?_
 intro wd hqx
 have hq0:Ext wb wd:=hqx
 refine tLp 0 ((.pointer (some ⟨X,10,none⟩))) rfl hq0 ?_
 simp only [ps]
 refine tL 1 (_) rfl (yieldsIf_cell rfl 75 _ rfl ⟨X,10,none⟩ rfl (.slice (some ⟨gf,0,none⟩) n n) _ (fun W' hW'=>(HX.out.ext hW').cell 10 rfl) Try.underlying75 rfl) hq0 ?_
 simp only [ps]
 refine tLp 2 ((.pointer (some ⟨Y,0,none⟩))) rfl hq0 ?_
 simp only [ps]
 refine tL 3 (_) rfl (yieldsIf_cell rfl 3 _ rfl ⟨Y,0,none⟩ rfl (.int .i64 (p:Int)) _ (fun W' hW'=>(HY.out.ext hW').cell 0 rfl) Try.underlying3 rfl) hq0 ?_
 simp only [ps]
 refine tL 4 ((.pointer (some ⟨gf,p,none⟩))) rfl (Or.inl ⟨rfl,fun W' _=>by go_simp <;> (intro h; omega)⟩) hq0 ?_
 simp only [ps]
 refine tL 5 (_) rfl (yieldsIf_cell rfl 84 _ rfl ⟨gf,p,none⟩ rfl (.complex .f64 (fl ca) (fl ha)) _ (fun W' hW'=>((HE.out.trans hW').cell HGF.out).trans HCA.out) Try.underlying84 rfl) hq0 ?_
 simp only [ps]
 refine tL 6 ((.float .f64 (fl ca))) rfl (Or.inl ⟨rfl,fun W' _=>by go_simp⟩) hq0 ?_
 simp only [ps]
 refine tLp 7 ((.int .u32 (more:Int))) rfl hq0 ?_
 simp only [ps]
 refine tL 8 ((.float .f64 (fl more))) rfl (Or.inl ⟨rfl,fun W' _=>by go_simp⟩) hq0 ?_
 simp only [ps]
 refine tL 9 ((.float .f64 (fl (ca+more)))) rfl (Or.inl ⟨rfl,fun W' _=>by go_simp⟩) hq0 ?_
 simp only [ps]
 refine tLp 10 ((.pointer (some ⟨X,10,none⟩))) rfl hq0 ?_
 simp only [ps]
 refine tL 11 (_) rfl (yieldsIf_cell rfl 75 _ rfl ⟨X,10,none⟩ rfl (.slice (some ⟨gf,0,none⟩) n n) _ (fun W' hW'=>(HX.out.ext hW').cell 10 rfl) Try.underlying75 rfl) hq0 ?_
 simp only [ps]
 refine tLp 12 ((.pointer (some ⟨Z,0,none⟩))) rfl hq0 ?_
 simp only [ps]
 refine tL 13 (_) rfl (yieldsIf_cell rfl 3 _ rfl ⟨Z,0,none⟩ rfl (.int .i64 (r:Int)) _ (fun W' hW'=>(HZ.out.ext hW').cell 0 rfl) Try.underlying3 rfl) hq0 ?_
 simp only [ps]
 refine tL 14 ((.pointer (some ⟨gf,r,none⟩))) rfl (Or.inl ⟨rfl,fun W' _=>by go_simp <;> (intro h; omega)⟩) hq0 ?_
 simp only [ps]
 refine tL 15 (_) rfl (yieldsIf_cell rfl 84 _ rfl ⟨gf,r,none⟩ rfl (.complex .f64 (fl cb) (fl hb)) _ (fun W' hW'=>((HE.out.trans hW').cell HGF.out).trans HCB.out) Try.underlying84 rfl) hq0 ?_
 simp only [ps]
 refine tL 16 ((.float .f64 (fl cb))) rfl (Or.inl ⟨rfl,fun W' _=>by go_simp⟩) hq0 ?_
 simp only [ps]
 refine tLp 17 ((.int .u32 (than:Int))) rfl hq0 ?_
 simp only [ps]
 refine tL 18 ((.float .f64 (fl than))) rfl (Or.inl ⟨rfl,fun W' _=>by go_simp⟩) hq0 ?_
 simp only [ps]
 refine tL 19 ((.float .f64 (fl (cb+than)))) rfl (Or.inl ⟨rfl,fun W' _=>by go_simp⟩) hq0 ?_
 simp only [ps]
 refine tL 21 (_) rfl (yieldsIf_rowS rfl 79 _ rfl X rfl #[.int .i64 t0,.int .i64 t1,.int .i64 t2,.int .i64 t3,.int .i64 hold,.int .i64 room,.int .i64 age,.slice (some ⟨nb,no,none⟩) n ncap,sv,rv,.slice (some ⟨gf,0,none⟩) n n,mv,bv] _ _ (fun W' hW'=>(HX.out.ext hW')) Try.underlying79 rfl size_view) hq0 ?_
 simp only [ps]
 refine tL 22 (_) rfl (yieldsIf_rowS rfl 58 _ rfl Y rfl #[.int .i64 (p:Int),.int .i64 (q:Int)] _ _ (fun W' hW'=>(HY.out.ext hW')) Try.underlying58 rfl size_pl) hq0 ?_
 simp only [ps]
 refine tL 24 (_) rfl (yieldsIf_rowS rfl 79 _ rfl X rfl #[.int .i64 t0,.int .i64 t1,.int .i64 t2,.int .i64 t3,.int .i64 hold,.int .i64 room,.int .i64 age,.slice (some ⟨nb,no,none⟩) n ncap,sv,rv,.slice (some ⟨gf,0,none⟩) n n,mv,bv] _ _ (fun W' hW'=>(HX.out.ext hW')) Try.underlying79 rfl size_view) hq0 ?_
 simp only [ps]
 refine tL 25 (_) rfl (yieldsIf_rowS rfl 58 _ rfl Z rfl #[.int .i64 (r:Int),.int .i64 (s:Int)] _ _ (fun W' hW'=>(HZ.out.ext hW')) Try.underlying58 rfl size_pl) hq0 ?_
 simp only [ps]
 refine tL 28 (_) rfl (yieldsIf_rowS rfl 79 _ rfl X rfl #[.int .i64 t0,.int .i64 t1,.int .i64 t2,.int .i64 t3,.int .i64 hold,.int .i64 room,.int .i64 age,.slice (some ⟨nb,no,none⟩) n ncap,sv,rv,.slice (some ⟨gf,0,none⟩) n n,mv,bv] _ _ (fun W' hW'=>(HX.out.ext hW')) Try.underlying79 rfl size_view) hq0 ?_
 simp only [ps]
 refine tL 29 (_) rfl (yieldsIf_rowS rfl 58 _ rfl Y rfl #[.int .i64 (p:Int),.int .i64 (q:Int)] _ _ (fun W' hW'=>(HY.out.ext hW')) Try.underlying58 rfl size_pl) hq0 ?_
 simp only [ps]
 refine tL 31 (_) rfl (yieldsIf_rowS rfl 79 _ rfl X rfl #[.int .i64 t0,.int .i64 t1,.int .i64 t2,.int .i64 t3,.int .i64 hold,.int .i64 room,.int .i64 age,.slice (some ⟨nb,no,none⟩) n ncap,sv,rv,.slice (some ⟨gf,0,none⟩) n n,mv,bv] _ _ (fun W' hW'=>(HX.out.ext hW')) Try.underlying79 rfl size_view) hq0 ?_
 simp only [ps]
 refine tL 32 (_) rfl (yieldsIf_rowS rfl 58 _ rfl Z rfl #[.int .i64 (r:Int),.int .i64 (s:Int)] _ _ (fun W' hW'=>(HZ.out.ext hW')) Try.underlying58 rfl size_pl) hq0 ?_
 simp only [ps]
 refine runL (i:=20) rfl rfl (by kernel_rfl) (fun K hK=>?_)
 go_simp
 refine (cmpf_ext (ca+more) (cb+than) wd HF1.out HF2.out).mono ?_
 rintro e wc1 ⟨rfl,hx⟩
 have hq1:=hq0.trans hx
 refine hK.out _ _ hq1 (fun hHeld=>?_)
 try simp only [ps]
 clear hK K hHeld
 refine runL (i:=23) rfl rfl (by kernel_rfl) (fun K hK=>?_)
 go_simp
 refine (vbridge_any t0 t1 t2 t3 hold room age nb no n ncap p q sv rv (.slice (some ⟨gf,0,none⟩) n n) mv bv N wc1 (HN.out.ext (HE.out.trans hq1)) HNL.out HPp.out).mono ?_
 rintro e wc2 ⟨rfl,hx⟩
 have hq2:=hq1.trans hx
 refine hK.out _ _ hq2 (fun hHeld=>?_)
 try simp only [ps]
 clear hK K hHeld
 refine runL (i:=26) rfl rfl (by kernel_rfl) (fun K hK=>?_)
 go_simp
 refine (vbridge_any t0 t1 t2 t3 hold room age nb no n ncap r s sv rv (.slice (some ⟨gf,0,none⟩) n n) mv bv N wc2 (HN.out.ext (HE.out.trans hq2)) HNL.out HPr.out).mono ?_
 rintro e wc3 ⟨rfl,hx⟩
 have hq3:=hq2.trans hx
 refine hK.out _ _ hq3 (fun hHeld=>?_)
 try simp only [ps]
 clear hK K hHeld
 refine runL (i:=27) rfl rfl (by kernel_rfl) (fun K hK=>?_)
 go_simp
 refine (cmpu64_ext (idA N p) (idA N r) wc3).mono ?_
 rintro e wc4 ⟨rfl,hx⟩
 have hq4:=hq3.trans hx
 refine hK.out _ _ hq4 (fun hHeld=>?_)
 try simp only [ps]
 clear hK K hHeld
 refine runL (i:=30) rfl rfl (by kernel_rfl) (fun K hK=>?_)
 go_simp
 refine (vport_any t0 t1 t2 t3 hold room age nb no n ncap p q sv rv (.slice (some ⟨gf,0,none⟩) n n) mv bv N wc4 (HN.out.ext (HE.out.trans hq4)) HNL.out HPp.out HQp.out).mono ?_
 rintro e wc5 ⟨rfl,hx⟩
 have hq5:=hq4.trans hx
 refine hK.out _ _ hq5 (fun hHeld=>?_)
 try simp only [ps]
 clear hK K hHeld
 refine runL (i:=33) rfl rfl (by kernel_rfl) (fun K hK=>?_)
 go_simp
 refine (vport_any t0 t1 t2 t3 hold room age nb no n ncap r s sv rv (.slice (some ⟨gf,0,none⟩) n n) mv bv N wc5 (HN.out.ext (HE.out.trans hq5)) HNL.out HPr.out HQr.out).mono ?_
 rintro e wc6 ⟨rfl,hx⟩
 have hq6:=hq5.trans hx
 refine hK.out _ _ hq6 (fun hHeld=>?_)
 try simp only [ps]
 clear hK K hHeld
 refine runL (i:=34) rfl rfl (by kernel_rfl) (fun K hK=>?_)
 go_simp
 refine (cmpu16_ext (ptA N p q).pid (ptA N r s).pid wc6).mono ?_
 rintro e wc7 ⟨rfl,hx⟩
 have hq7:=hq6.trans hx
 refine hK.out _ _ hq7 (fun hHeld=>?_)
 try simp only [ps]
 clear hK K hHeld
 refine runL (i:=35) rfl rfl (by kernel_rfl) (fun K hK=>?_)
 refine wp_buildSlice 56 3 3 _ rfl #[.int .i64 (cmpI ((ca+more:Nat):Int) ((cb+than:Nat):Int)),.int .i64 (cmpI (idA N p) (idA N r)),.int .i64 (cmpI (ptA N p q).pid (ptA N r s).pid)] i3 (.int .i64 0) Try.underlying56 I3.out.1 I3.out.2.1 (by rw [I3.out.2.2.1]; decide) (by rw [I3.out.2.2.1]; decide) (by rw [I3.out.2.2.1]; kernel_rfl) ?_
 have hbs:=hq7.alloc (.cells #[.int .i64 (cmpI ((ca+more:Nat):Int) ((cb+than:Nat):Int)),.int .i64 (cmpI (idA N p) (idA N r)),.int .i64 (cmpI (ptA N p q).pid (ptA N r s).pid)] 3)
 have hbn:=heap_alloc_new wc7 (.cells #[.int .i64 (cmpI ((ca+more:Nat):Int) ((cb+than:Nat):Int)),.int .i64 (cmpI (idA N p) (idA N r)),.int .i64 (cmpI (ptA N p q).pid (ptA N r s).pid)] 3)
 refine hK.out _ _ hbs (fun _=>?_)
 try simp only [ps]
 clear hK K
 obtain ⟨wg,hwg⟩:∃ wg,wc7.alloc (.cells #[.int .i64 (cmpI ((ca+more:Nat):Int) ((cb+than:Nat):Int)),.int .i64 (cmpI (idA N p) (idA N r)),.int .i64 (cmpI (ptA N p q).pid (ptA N r s).pid)] 3)=wg:=⟨_,rfl⟩
 obtain ⟨G,hG⟩:∃ G,wc7.heap.size=G:=⟨_,rfl⟩
 rw [hwg] at hbs hbn ⊢
 rw [hG] at hbn ⊢
 have HG:=Lib.hid (show Nums wg G [(cmpI ((ca+more:Nat):Int) ((cb+than:Nat):Int)),(cmpI (idA N p) (idA N r)),(cmpI (ptA N p q).pid (ptA N r s).pid)] from ⟨_,hbn,fun i hi=>by
  match i,hi with
  | 0,_=>rfl
  | 1,_=>rfl
  | 2,_=>rfl⟩)
 clear hwg hG hbn
 refine runL (i:=36) rfl rfl (by kernel_rfl) (fun K hK=>?_)
 go_simp
 refine (or_ext G 3 [(cmpI ((ca+more:Nat):Int) ((cb+than:Nat):Int)),(cmpI (idA N p) (idA N r)),(cmpI (ptA N p q).pid (ptA N r s).pid)] wg HG.out rfl (by decide)).mono ?_
 rintro e wc8 ⟨rfl,hx⟩
 have hq8:=hbs.trans hx
 refine hK.out _ _ hq8 (fun hHeld=>?_)
 try simp only [ps]
 clear hK K hHeld
 refine tLp 37 ((.int .i64 (orI [(cmpI ((ca+more:Nat):Int) ((cb+than:Nat):Int)),(cmpI (idA N p) (idA N r)),(cmpI (ptA N p q).pid (ptA N r s).pid)]))) rfl hq8 ?_
 simp only [ps]
 refine wpAnyH_done (by kernel_rfl) ?_ _
 have HE3:=Lib.hid (HE.out.trans hq8)
 go_wp2_with fail
 go_ret
 exact ⟨rfl,HE3.out⟩
end Go.Proofs.Ytamnmjckhicapaa
namespace Go.Proofs.Ytamnmjckhicapaa
open Go.RowKit Go.BigFrame Go.WideShapes Go.ChangeShapes Go.Deep
set_option linter.unusedVariables false
set_option linter.unusedSimpArgs false
set_option maxRecDepth 100000
def minK (cf:Pl→Pl→Int) (S:List Pl):Nat→Pl
 | 0=>S.getD 0 (0,0)
 | k+1=>if cf (S.getD (k+1) (0,0)) (minK cf S k) < 0 then S.getD (k+1) (0,0) else minK cf S k
def minF (cf:Pl→Pl→Int) (S:List Pl):Pl:=minK cf S (S.length - 1)
theorem getD_mem (S:List Pl) (k:Nat) (h:k < S.length):S.getD k (0,0) ∈ S:=by
 rw [List.getD_eq_getElem?_getD,List.getElem?_eq_getElem h]
 exact List.getElem_mem h
theorem minK_mem (cf:Pl→Pl→Int) (S:List Pl):∀ k,k < S.length→minK cf S k ∈ S
 | 0,h=>getD_mem S 0 h
 | k+1,h=>by
  unfold minK
  split
  ·exact getD_mem S (k+1) h
  ·exact minK_mem cf S k (by omega)
theorem minF_mem (cf:Pl→Pl→Int) (S:List Pl) (h:1≤S.length):minF cf S ∈ S:=minK_mem cf S _ (by omega)
set_option maxRecDepth 100000 in
set_option maxHeartbeats 8000000 in
theorem mind_any (cf:Pl→Pl→Int) (n cap sb so:Nat) (S:List Pl) (w:World) (X:Nat) (hS:PlAt w (.slice (some ⟨sb,so,none⟩) n cap) S) (hn:S.length=n) (hn1:1≤n∧n≤60)
    (hc:∀ (a b:Pl) (w':World),a ∈ S→b ∈ S→Ext w w'→Calls Try.prog 39 #[.agg #[.int .i64 a.1,.int .i64 a.2],.agg #[.int .i64 b.1,.int .i64 b.2],.pointer (some ⟨X,0,none⟩)] w' fun e w''=>e=.returned (.int .i64 (cf a b))∧Ext w' w'') :
    Calls Try.prog 38 #[.slice (some ⟨sb,so,none⟩) n cap,.func (.func 39) #[] #[.pointer (some ⟨X,0,none⟩)]] w fun e w'=>e=.returned (.agg #[.int .i64 (minF cf S).1,.int .i64 (minF cf S).2])∧Ext w w':=by
 obtain ⟨pa,pcap,hpe,hpm,hpf⟩:=hS
 obtain ⟨pb,po,rfl,hpb,hpc,hpc2,hp4⟩:=hpf (by omega)
 simp only [Value.slice.injEq,Option.some.injEq,Addr.mk.injEq] at hpe
 obtain ⟨⟨rfl,rfl,-⟩,-,rfl⟩:=hpe
 rw [hn] at hpc hpm
 have hr0:=hp4 0 (by omega)
 obtain ⟨s0,hs0⟩:∃ s0,S.getD 0 (0,0)=s0:=⟨_,rfl⟩
 have HMF:=Lib.hid (show minF cf S=minK cf S (n - 1) from by unfold minF; rw [hn])
 have HR0:=Lib.hid (show w.rangeAt sb so [.int .i64 s0.1,.int .i64 s0.2] from by
  have h:=hr0
  rw [Nat.zero_mul,Nat.add_zero] at h
  rw [← hs0]
  exact h)
 have HS0:=Lib.hid hs0
 have HSB:=Lib.hid hpb
 have H4:=Lib.hid hp4
 have HC:=Lib.hid hc
 have HN:=Lib.hid hn
 have hn2:=hn1.1
 have hn60:=hn1.2
 have HA0:=Lib.hid True.intro
 clear hr0 hs0 hpb hp4 hc hn hn1 hpf
 go_enter Try.func38,Try.ntmps38
 go_wp2_with (first
  | fail
  | ((with_reducible refine at_alloc 58 ?_); have:=HA0.out; clear HA0; refine al_zero rfl 58 rfl PZ2 zero_pl ?_
     intro R w1 hq hsz hx
     have HR1:=Lib.hid (show BoxAt w1 R PZ2 58 from hq)
     have HE1:=Lib.hid hx
     have HRW:=Lib.hid (show w.heap.size≤R from by omega)
     clear hq hsz hx)
  | ((with_reducible refine at_alloc 58 ?_); refine al_zero rfl 58 rfl PZ2 zero_pl ?_
     intro M w2 hq hsz hx
     have HM1:=Lib.hid hq
     have HR2:=Lib.hid (HR1.out.ext hx)
     have HE2:=Lib.hid (HE1.out.trans hx)
     have HMW:=Lib.hid (show w.heap.size≤M from by have:=HE1.out.size; omega)
     have HRM:=Lib.hid (show R ≠ M from by have:=heap_lt HR1.out; omega)
     clear hq hsz hx HE1)
  | ((with_reducible refine at_load 58 ?_); refine wpList_load_mid rfl 58 _ rfl sb so rfl [.int .i64 s0.1,.int .i64 s0.2] _ (rangeR_ext HR0.out HE1.out HSB.out) Try.underlying58 rfl size_pl ?_)
  | ((with_reducible refine at_store 58 ?_); refine st_at rfl rfl 58 _ _ rfl M 0 _ #[.int .i64 s0.1,.int .i64 s0.2] PZ2 #[.int .i64 s0.1,.int .i64 s0.2] 58 rfl rfl rfl HM1.out (by exact (by decide:0+2≤2)) (by kernel_rfl) rfl rfl ?_
     intro w3 hq hm
     have HM3:=Lib.hid hq
     have HR3:=Lib.hid (show BoxAt w3 R PZ2 58 from (hm.heap (heap_lt HR2.out) (fun h=>HRM.out h)).trans HR2.out)
     have HE3:=Lib.hid (HE2.out.mutE hm (fun j hj h=>by have h2:j=M:=h; have:=HMW.out; omega))
     clear hq hm HR1 HR2 HM1 HE2 w1 w2))
 go_loopw [6] (fun s wr=>∃ (k:Nat),s=.int .i64 ((k+1:Nat):Int)∧k+1≤n∧wr.heap[M]?=some (.cells #[.int .i64 (minK cf S k).1,.int .i64 (minK cf S k).2] 58 (0,0))∧BoxAt wr R PZ2 58∧Ext w wr) (fun s _=>n - (intOf s).toNat)
 case atStart=>exact ⟨0,rfl,by omega,by rw [show minK cf S 0=s0 from HS0.out]; exact HM3.out,HR3.out,HE3.out⟩
 case round =>
  obtain ⟨k,rfl,hk,hm,hr,hx⟩:=hrel
  rename World=>wl
  have HR:=Lib.hid hr
  have HXL:=Lib.hid hx
  have HMK:=Lib.hid (show ∀ j,j≤k→minK cf S j ∈ S from fun j hj=>minK_mem cf S j (by rw [HN.out]; omega))
  obtain ⟨m,hmk⟩:∃ m,minK cf S k=m:=⟨_,rfl⟩
  have HMS:=Lib.hid (show m ∈ S from by rw [← hmk]; exact HMK.out k (Nat.le_refl _))
  rw [hmk] at hm
  have HM:=Lib.hid hm
  clear hm hr hx HM3 HR3 HE3 HMK
  by_cases hlt:k+1 < n
  ·have dlt:decide (((k+1:Nat):Int) < (n:Int))=true:=by simp; omega
   have hup:IntKind.i64.wrap (((k+1:Nat):Int)+1)=((k+1+1:Nat):Int):=by rw [IntKind.wrap_i64]; omega
   have hra:w.rangeAt sb (so+(k+1)*2) (plL (S.getD (k+1) (0,0))):=H4.out (k+1) (by rw [HN.out]; exact hlt)
   have hlk:k+1 < S.length:=by rw [HN.out]; exact hlt
   have HSA:=Lib.hid (show S.getD (k+1) (0,0) ∈ S from by
    rw [List.getD_eq_getElem?_getD,List.getElem?_eq_getElem hlk]
    exact List.getElem_mem hlk)
   obtain ⟨a,ha⟩:∃ a,S.getD (k+1) (0,0)=a:=⟨_,rfl⟩
   have HST:=Lib.hid (show minK cf S (k+1)=if cf a m < 0 then a else m from by rw [← ha,← hmk]; rfl)
   rw [ha] at hra HSA
   have HAS:=HSA
   have RS:=Lib.hid (show wl.rangeAt sb (so+(k+1)*2) [.int .i64 a.1,.int .i64 a.2] from rangeR_ext hra HXL.out HSB.out)
   have HSW:=HSB
   have HSB:=Lib.hid (show sb < wl.heap.size from Nat.lt_of_lt_of_le HSW.out HXL.out.size)
   clear hra ha hmk hlk
   by_cases hz0:cf a m < 0
   ·have dz:decide (cf a m < 0)=true:=by simpa using hz0
    have HS1:=Lib.hid (show minK cf S (k+1)=a from by rw [HST.out,if_pos hz0])
    clear HST
    go_wp2_with fail
    refine beginL (S:=fun W'=>Ext wl W') (by kernel_rfl) ?_
    intro wd hqx
    have hq0:Ext wl wd:=hqx
    refine tLp 0 (.func (.func 39) #[] #[.pointer (some ⟨X,0,none⟩)]) rfl hq0 ?_
    simp only [ps]
    refine tLp 1 ((.slice (some ⟨sb,so,none⟩) n cap)) rfl hq0 ?_
    simp only [ps]
    refine tLp 2 ((.int .i64 ((k+1:Nat):Int))) rfl hq0 ?_
    simp only [ps]
    refine tL 3 ((.pointer (some ⟨sb,so+(k+1)*2,none⟩))) rfl (Or.inl ⟨rfl,fun W' _=>by go_simp <;> (intro h; omega)⟩) hq0 ?_
    simp only [ps]
    refine tL 4 (_) rfl (yieldsIf_load_mid rfl 58 _ rfl sb (so+(k+1)*2) rfl ([.int .i64 a.1,.int .i64 a.2]) _ (fun W' hW'=>(rangeR_ext RS.out hW' HSB.out)) Try.underlying58 rfl size_pl) hq0 ?_
    simp only [ps]
    refine tL 5 (_) rfl (yieldsIf_rowS rfl 58 _ rfl M rfl #[.int .i64 m.1,.int .i64 m.2] _ _ (fun W' hW'=>((hW'.block M (heap_lt HM.out)).trans HM.out)) Try.underlying58 rfl size_pl) hq0 ?_
    simp only [ps]
    refine runL (i:=6) rfl rfl (by kernel_rfl) (fun K hK=>?_)
    go_simp
    refine (HC.out a m wd HAS.out HMS.out (HXL.out.trans hq0)).mono ?_
    rintro e wc1 ⟨rfl,hx⟩
    have hq1:=hq0.trans hx
    refine hK.out _ _ hq1 (fun hHeld=>?_)
    try simp only [ps]
    clear hK K hHeld
    refine tL 7 ((.bool true)) rfl (Or.inl ⟨rfl,fun W' _=>by go_simp⟩) hq1 ?_
    simp only [ps]
    refine wpAnyH_done (by kernel_rfl) ?_ _
    have HM5:=Lib.hid ((hq1.block M (heap_lt HM.out)).trans HM.out)
    have HR5:=Lib.hid (HR.out.ext hq1)
    have HX5:=Lib.hid (HXL.out.trans hq1)
    have RS5:=Lib.hid (rangeR_ext RS.out hq1 HSB.out)
    go_wp2_with (first
     | fail
     | ((with_reducible refine at_load 58 ?_); refine wpList_load_mid rfl 58 _ rfl sb (so+(k+1)*2) rfl [.int .i64 a.1,.int .i64 a.2] _ RS5.out Try.underlying58 rfl size_pl ?_)
     | ((with_reducible refine at_store 58 ?_); refine st_at rfl rfl 58 _ _ rfl M 0 _ #[.int .i64 a.1,.int .i64 a.2] #[.int .i64 m.1,.int .i64 m.2] #[.int .i64 a.1,.int .i64 a.2] 58 rfl rfl rfl HM5.out (by exact (by decide:0+2≤2)) (by kernel_rfl) rfl rfl ?_
        intro w7 hq7 hm7
        have HM7:=Lib.hid hq7
        have HR7:=Lib.hid (show BoxAt w7 R PZ2 58 from (hm7.heap (heap_lt HR5.out) (fun h=>HRM.out h)).trans HR5.out)
        have HX7:=Lib.hid (HX5.out.mutE hm7 (fun j hj h=>by have h2:j=M:=h; have:=HMW.out; omega))
        clear hq7 hm7))
    go_roundw
    case rel=>exact ⟨k+1,by go_num,by omega,by rw [HS1.out]; exact HM7.out,HR7.out,HX7.out⟩
    case measure=>simp [intOf] <;> omega
   ·have dz:decide (cf a m < 0)=false:=by simpa using hz0
    have HS1:=Lib.hid (show minK cf S (k+1)=m from by rw [HST.out,if_neg hz0])
    clear HST
    go_wp2_with fail
    refine beginL (S:=fun W'=>Ext wl W') (by kernel_rfl) ?_
    intro wd hqx
    have hq0:Ext wl wd:=hqx
    refine tLp 0 (.func (.func 39) #[] #[.pointer (some ⟨X,0,none⟩)]) rfl hq0 ?_
    simp only [ps]
    refine tLp 1 ((.slice (some ⟨sb,so,none⟩) n cap)) rfl hq0 ?_
    simp only [ps]
    refine tLp 2 ((.int .i64 ((k+1:Nat):Int))) rfl hq0 ?_
    simp only [ps]
    refine tL 3 ((.pointer (some ⟨sb,so+(k+1)*2,none⟩))) rfl (Or.inl ⟨rfl,fun W' _=>by go_simp <;> (intro h; omega)⟩) hq0 ?_
    simp only [ps]
    refine tL 4 (_) rfl (yieldsIf_load_mid rfl 58 _ rfl sb (so+(k+1)*2) rfl ([.int .i64 a.1,.int .i64 a.2]) _ (fun W' hW'=>(rangeR_ext RS.out hW' HSB.out)) Try.underlying58 rfl size_pl) hq0 ?_
    simp only [ps]
    refine tL 5 (_) rfl (yieldsIf_rowS rfl 58 _ rfl M rfl #[.int .i64 m.1,.int .i64 m.2] _ _ (fun W' hW'=>((hW'.block M (heap_lt HM.out)).trans HM.out)) Try.underlying58 rfl size_pl) hq0 ?_
    simp only [ps]
    refine runL (i:=6) rfl rfl (by kernel_rfl) (fun K hK=>?_)
    go_simp
    refine (HC.out a m wd HAS.out HMS.out (HXL.out.trans hq0)).mono ?_
    rintro e wc1 ⟨rfl,hx⟩
    have hq1:=hq0.trans hx
    refine hK.out _ _ hq1 (fun hHeld=>?_)
    try simp only [ps]
    clear hK K hHeld
    refine tL 7 ((.bool false)) rfl (Or.inl ⟨rfl,fun W' _=>by go_simp⟩) hq1 ?_
    simp only [ps]
    refine wpAnyH_done (by kernel_rfl) ?_ _
    have HM5:=Lib.hid ((hq1.block M (heap_lt HM.out)).trans HM.out)
    have HR5:=Lib.hid (HR.out.ext hq1)
    have HX5:=Lib.hid (HXL.out.trans hq1)
    go_wp2_with fail
    go_roundw
    case rel=>exact ⟨k+1,by go_num,by omega,by rw [HS1.out]; exact HM5.out,HR5.out,HX5.out⟩
    case measure=>simp [intOf] <;> omega
  ·have dlt:decide (((k+1:Nat):Int) < (n:Int))=false:=by simp; omega
   have HKN:=Lib.hid (show minF cf S=m from by rw [HMF.out,← hmk,show n - 1=k by omega])
   clear hmk
   go_wp2_with (first
    | fail
    | ((with_reducible refine at_load 58 ?_); refine wpList_load_row rfl 58 _ rfl M rfl 58 #[.int .i64 m.1,.int .i64 m.2] (0,0) _ HM.out Try.underlying58 rfl size_pl ?_)
    | ((with_reducible refine at_store 58 ?_); refine st_at rfl rfl 58 _ _ rfl R 0 _ #[.int .i64 m.1,.int .i64 m.2] PZ2 #[.int .i64 m.1,.int .i64 m.2] 58 rfl rfl rfl HR.out (by exact (by decide:0+2≤2)) (by kernel_rfl) rfl rfl ?_
       intro w7 hq7 hm7
       have HR7:=Lib.hid hq7
       have HX7:=Lib.hid (HXL.out.mutE hm7 (fun j hj h=>by have h2:j=R:=h; have:=HRW.out; omega))
       clear hq7 hm7))
   refine bodyPost_ret (results_cell_row rfl _ _ R _ _ (0,0) _ rfl HR7.out Try.underlying58 rfl size_pl) rfl ?_
   exact ⟨by rw [HKN.out],HX7.out⟩
end Go.Proofs.Ytamnmjckhicapaa
namespace Go.Proofs.Ytamnmjckhicapaa
open Go.RowKit Go.BigFrame Go.WideShapes Go.ChangeShapes Go.Deep
set_option linter.unusedVariables false
set_option linter.unusedSimpArgs false
set_option maxRecDepth 100000
theorem nowhere_any (w:World):Calls Try.prog 37 #[] w fun e w'=>e=.returned (.agg #[.int .i64 (-1),.int .i64 (-1)])∧Ext w w':=by
 go_enter Try.func37,Try.ntmps37
 go_wp2_with (first
  | fail
  | ((with_reducible refine at_alloc 58 ?_); refine al_zero rfl 58 rfl PZ2 zero_pl ?_
     intro R w1 hq hsz hx
     have HR1:=Lib.hid hq
     have HE1:=Lib.hid hx
     have HRW:=Lib.hid (show w.heap.size≤R from by omega)
     clear hq hsz hx)
  | ((with_reducible refine at_store 58 ?_); refine st_at rfl rfl 58 _ _ rfl R 0 _ #[.int .i64 (-1),.int .i64 (-1)] PZ2 #[.int .i64 (-1),.int .i64 (-1)] 58 rfl rfl rfl HR1.out (by exact (by decide:0+2≤2)) (by kernel_rfl) rfl rfl ?_
     intro w3 hq hm
     have HR3:=Lib.hid hq
     have HE3:=Lib.hid (HE1.out.mutE hm (fun j hj h=>by have h2:j=R:=h; have:=HRW.out; omega))
     clear hq hm))
 refine bodyPost_ret (results_cell_row rfl _ _ R _ _ (0,0) _ rfl HR3.out Try.underlying58 rfl size_pl) rfl ?_
 exact ⟨rfl,HE3.out⟩
def offerP (N:List Nd) (D:List Way) (a b:Pl):Int:=offerF N D a.1.toNat a.2.toNat b.1.toNat b.2.toNat 0 0
def desF (N:List Nd) (D:List Way) (S:List Pl):Pl:=if S.length=0 then (-1,-1) else minF (offerP N D) S
set_option maxRecDepth 100000 in
set_option maxHeartbeats 4000000 in
theorem des1_any (t0 t1 t2 t3 hold room age:Int) (nb no n ncap gf:Nat) (sv rv mv bv:Value) (N:List Nd) (D:List Way) (X p q r s:Nat) (w:World) (hN:NodesAt w (.slice (some ⟨nb,no,none⟩) n ncap) N) (hnl:N.length=n) (hn5:n≤5) (hD:WRow w gf D) (hdl:D.length=n) (hdc:∀ i,i < n→∃ x,D.getD i Option.none=Option.some x∧x.1 < 4294967296) (hX:BoxAt w X #[.int .i64 t0,.int .i64 t1,.int .i64 t2,.int .i64 t3,.int .i64 hold,.int .i64 room,.int .i64 age,.slice (some ⟨nb,no,none⟩) n ncap,sv,rv,.slice (some ⟨gf,0,none⟩) n n,mv,bv] 79)
    (hp:p < n) (hq:q < (N.getD p default).ports.length) (hr:r < n) (hs:s < (N.getD r default).ports.length) :
    Calls Try.prog 39 #[.agg #[.int .i64 (p:Int),.int .i64 (q:Int)],.agg #[.int .i64 (r:Int),.int .i64 (s:Int)],.pointer (some ⟨X,0,none⟩)] w fun e w'=>e=.returned (.int .i64 (offerF N D p q r s 0 0))∧Ext w w':=by
 have HN:=Lib.hid hN
 have HNL:=Lib.hid hnl
 have HD:=Lib.hid hD
 have HDL:=Lib.hid hdl
 have HDC:=Lib.hid hdc
 have HX0:=Lib.hid hX
 have HP:=Lib.hid (And.intro hp (And.intro hq (And.intro hr hs)))
 have H5:=Lib.hid hn5
 clear hN hnl hD hdl hdc hX hp hq hr hs hn5
 go_enter Try.func39,Try.ntmps39
 go_wp2_with (first
  | fail
  | ((with_reducible refine at_box 58 ?_); refine bx_row rfl 58 _ rfl #[.int .i64 (p:Int),.int .i64 (q:Int)] rfl ?_
     intro Y w2 hY hsz hx2
     have HY2:=Lib.hid (show BoxAt w2 Y #[.int .i64 (p:Int),.int .i64 (q:Int)] 58 from hY)
     have HX2:=Lib.hid (HX0.out.ext hx2)
     have HE2:=Lib.hid hx2
     clear hY hsz hx2)
  | ((with_reducible refine at_box 58 ?_); refine bx_row rfl 58 _ rfl #[.int .i64 (r:Int),.int .i64 (s:Int)] rfl ?_
     intro Z wb hZ hsz hx3
     have HZ:=Lib.hid (show BoxAt wb Z #[.int .i64 (r:Int),.int .i64 (s:Int)] 58 from hZ)
     have HX:=Lib.hid (HX2.out.ext hx3)
     have HY:=Lib.hid (HY2.out.ext hx3)
     have HE:=Lib.hid (HE2.out.trans hx3)
     clear hZ hsz hx3 HY2 HX2 HE2)
  | ((with_reducible refine at_load 79 ?_); refine wpList_load_row rfl 79 _ rfl X rfl 79 #[.int .i64 t0,.int .i64 t1,.int .i64 t2,.int .i64 t3,.int .i64 hold,.int .i64 room,.int .i64 age,.slice (some ⟨nb,no,none⟩) n ncap,sv,rv,.slice (some ⟨gf,0,none⟩) n n,mv,bv] (0,0) _ HX.out Try.underlying79 rfl size_view ?_)
  | ((with_reducible refine at_load 58 ?_); refine wpList_load_row rfl 58 _ rfl Y rfl 58 #[.int .i64 (p:Int),.int .i64 (q:Int)] (0,0) _ HY.out Try.underlying58 rfl size_pl ?_)
  | ((with_reducible refine at_load 58 ?_); refine wpList_load_row rfl 58 _ rfl Z rfl 58 #[.int .i64 (r:Int),.int .i64 (s:Int)] (0,0) _ HZ.out Try.underlying58 rfl size_pl ?_))
 refine (offer_any t0 t1 t2 t3 hold room age nb no n ncap gf p q r s 0 0 sv rv mv bv N D _ (HN.out.ext HE.out) HNL.out H5.out (HD.out.ext HE.out) HDL.out HP.out.1 HP.out.2.1 HP.out.2.2.1 HP.out.2.2.2 (HDC.out p HP.out.1) (HDC.out r HP.out.2.2.1) (by decide) (by decide)).mono ?_
 rintro e w5 ⟨rfl,hx5⟩
 have HE5:=Lib.hid (HE.out.trans hx5)
 clear hx5
 go_wp2_with fail
 go_ret
 exact ⟨rfl,HE5.out⟩
set_option maxRecDepth 100000 in
set_option maxHeartbeats 4000000 in
theorem des_any (t0 t1 t2 t3 hold room age:Int) (nb no n ncap gf:Nat) (sv rv mv bv:Value) (N:List Nd) (D:List Way) (S:List Pl) (lv:Value) (w:World) (hN:NodesAt w (.slice (some ⟨nb,no,none⟩) n ncap) N) (hnl:N.length=n) (hn5:n≤5) (hD:WRow w gf D) (hdl:D.length=n) (hdc:∀ i,i < n→∃ x,D.getD i Option.none=Option.some x∧x.1 < 4294967296) (hS:PlAt w lv S) (hS60:S.length≤60) (hok:∀ a ∈ S,PlOk N a) :
    Calls Try.prog 23 #[(.agg #[.int .i64 t0,.int .i64 t1,.int .i64 t2,.int .i64 t3,.int .i64 hold,.int .i64 room,.int .i64 age,.slice (some ⟨nb,no,none⟩) n ncap,sv,rv,.slice (some ⟨gf,0,none⟩) n n,mv,bv]),lv] w fun e w'=>e=.returned (.agg #[.int .i64 (desF N D S).1,.int .i64 (desF N D S).2])∧Ext w w':=by
 obtain ⟨pa,pcap,rfl,hpm,hpf⟩:=hS
 have HN:=Lib.hid hN
 have HNL:=Lib.hid hnl
 have HD:=Lib.hid hD
 have HDL:=Lib.hid hdl
 have HDC:=Lib.hid hdc
 have HOK:=Lib.hid hok
 have H5:=Lib.hid hn5
 obtain ⟨m,hm⟩:∃ m,S.length=m:=⟨_,rfl⟩
 have HM:=Lib.hid hm
 have HPF:=Lib.hid hpf
 rw [hm] at hpm hS60 HPF ⊢
 clear hN hnl hD hdl hdc hok hn5 hpf hm
 go_enter Try.func23,Try.ntmps23
 by_cases hm0:m=0
 ·have dm:decide ((m:Int)=0)=true:=by simpa using hm0
  have HF:=Lib.hid (show desF N D S=(-1,-1) from by unfold desF; rw [if_pos (by rw [HM.out]; exact hm0)])
  subst hm0
  go_wp2_with (first
   | fail
   | ((with_reducible refine at_box 79 ?_); refine bx_row rfl 79 _ rfl #[.int .i64 t0,.int .i64 t1,.int .i64 t2,.int .i64 t3,.int .i64 hold,.int .i64 room,.int .i64 age,.slice (some ⟨nb,no,none⟩) n ncap,sv,rv,.slice (some ⟨gf,0,none⟩) n n,mv,bv] rfl ?_
      intro X w1 hX hsz hx1
      have HX1:=Lib.hid (show BoxAt w1 X #[.int .i64 t0,.int .i64 t1,.int .i64 t2,.int .i64 t3,.int .i64 hold,.int .i64 room,.int .i64 age,.slice (some ⟨nb,no,none⟩) n ncap,sv,rv,.slice (some ⟨gf,0,none⟩) n n,mv,bv] 79 from hX)
      have HE1:=Lib.hid hx1
      clear hX hsz hx1)
   | ((with_reducible refine at_alloc 58 ?_); refine al_zero rfl 58 rfl PZ2 zero_pl ?_
      intro R w2 hq hsz hx
      have HR2:=Lib.hid (show BoxAt w2 R PZ2 58 from hq)
      have HE2:=Lib.hid (HE1.out.trans hx)
      have HRW:=Lib.hid (show w.heap.size≤R from by have:=HE1.out.size; omega)
      clear hq hsz hx HE1))
  refine (nowhere_any _).mono ?_
  rintro e w5 ⟨rfl,hx5⟩
  have HR5:=Lib.hid (HR2.out.ext hx5)
  have HE5:=Lib.hid (HE2.out.trans hx5)
  clear hx5
  go_wp2_with (first
   | fail
   | ((with_reducible refine at_store 58 ?_); refine st_at rfl rfl 58 _ _ rfl R 0 _ #[.int .i64 (-1),.int .i64 (-1)] PZ2 #[.int .i64 (-1),.int .i64 (-1)] 58 rfl rfl rfl HR5.out (by exact (by decide:0+2≤2)) (by kernel_rfl) rfl rfl ?_
      intro w7 hq7 hm7
      have HR7:=Lib.hid hq7
      have HX7:=Lib.hid (HE5.out.mutE hm7 (fun j hj h=>by have h2:j=R:=h; have:=HRW.out; omega))
      clear hq7 hm7))
  refine bodyPost_ret (results_cell_row rfl _ _ R _ _ (0,0) _ rfl HR7.out Try.underlying58 rfl size_pl) rfl ?_
  exact ⟨by rw [HF.out],HX7.out⟩
 ·obtain ⟨sb,so,rfl,hpb,hpc,hpc2,hp4⟩:=HPF.out (by omega)
  have dm:decide ((m:Int)=0)=false:=by simp; omega
  have bm:((m:Int) == 0)=false:=by simp; omega
  have HF:=Lib.hid (show desF N D S=minF (offerP N D) S from by unfold desF; rw [if_neg (by rw [HM.out]; exact hm0)])
  have HS:=Lib.hid (show PlAt w (.slice (some ⟨sb,so,none⟩) m pcap) S from ⟨_,_,by rw [HM.out],by rw [HM.out]; exact hpm,fun _=>⟨sb,so,rfl,hpb,by rw [HM.out]; exact hpc,hpc2,by rw [HM.out]; exact hp4⟩⟩)
  obtain ⟨mf,hmf⟩:∃ mf,minF (offerP N D) S=mf:=⟨_,rfl⟩
  have HMF:=Lib.hid hmf
  clear hp4 hpb hmf
  go_wp2_with (first
   | fail
   | ((with_reducible refine at_box 79 ?_); refine bx_row rfl 79 _ rfl #[.int .i64 t0,.int .i64 t1,.int .i64 t2,.int .i64 t3,.int .i64 hold,.int .i64 room,.int .i64 age,.slice (some ⟨nb,no,none⟩) n ncap,sv,rv,.slice (some ⟨gf,0,none⟩) n n,mv,bv] rfl ?_
      intro X w1 hX hsz hx1
      have HX1:=Lib.hid (show BoxAt w1 X #[.int .i64 t0,.int .i64 t1,.int .i64 t2,.int .i64 t3,.int .i64 hold,.int .i64 room,.int .i64 age,.slice (some ⟨nb,no,none⟩) n ncap,sv,rv,.slice (some ⟨gf,0,none⟩) n n,mv,bv] 79 from hX)
      have HE1:=Lib.hid hx1
      clear hX hsz hx1)
   | ((with_reducible refine at_alloc 58 ?_); refine al_zero rfl 58 rfl PZ2 zero_pl ?_
      intro R w2 hq hsz hx
      have HR2:=Lib.hid (show BoxAt w2 R PZ2 58 from hq)
      have HX2:=Lib.hid (HX1.out.ext hx)
      have HE2:=Lib.hid (HE1.out.trans hx)
      have HRW:=Lib.hid (show w.heap.size≤R from by have:=HE1.out.size; omega)
      clear hq hsz hx HE1))
  refine (mind_any (offerP N D) m pcap sb so S w2 X (RowAt.ext HS.out HE2.out) HM.out ⟨by omega,hS60⟩ (fun a b w' ha hb hx=>by
   obtain ⟨a1,a2,a3,a4⟩:=HOK.out a ha
   obtain ⟨b1,b2,b3,b4⟩:=HOK.out b hb
   rw [HNL.out] at a2 b2
   have h:=des1_any t0 t1 t2 t3 hold room age nb no n ncap gf sv rv mv bv N D X a.1.toNat a.2.toNat b.1.toNat b.2.toNat w' (HN.out.ext (HE2.out.trans hx)) HNL.out H5.out (HD.out.ext (HE2.out.trans hx)) HDL.out HDC.out (HX2.out.ext hx) (by omega) (by omega) (by omega) (by omega)
   rw [Int.toNat_of_nonneg a1,Int.toNat_of_nonneg a3,Int.toNat_of_nonneg b1,Int.toNat_of_nonneg b3] at h
   exact h)).mono ?_
  rintro e w5 ⟨rfl,hx5⟩
  rw [HMF.out]
  have HR5:=Lib.hid (HR2.out.ext hx5)
  have HE5:=Lib.hid (HE2.out.trans hx5)
  clear hx5
  go_wp2_with (first
   | fail
   | ((with_reducible refine at_store 58 ?_); refine st_at rfl rfl 58 _ _ rfl R 0 _ #[.int .i64 mf.1,.int .i64 mf.2] PZ2 #[.int .i64 mf.1,.int .i64 mf.2] 58 rfl rfl rfl HR5.out (by exact (by decide:0+2≤2)) (by kernel_rfl) rfl rfl ?_
      intro w7 hq7 hm7
      have HR7:=Lib.hid hq7
      have HX7:=Lib.hid (HE5.out.mutE hm7 (fun j hj h=>by have h2:j=R:=h; have:=HRW.out; omega))
      clear hq7 hm7))
  refine bodyPost_ret (results_cell_row rfl _ _ R _ _ (0,0) _ rfl HR7.out Try.underlying58 rfl size_pl) rfl ?_
  exact ⟨by rw [HF.out,HMF.out],HX7.out⟩
end Go.Proofs.Ytamnmjckhicapaa
namespace Go.Proofs.Ytamnmjckhicapaa
open Go.RowKit Go.BigFrame Go.WideShapes Go.ChangeShapes Go.Deep
set_option linter.unusedVariables false
set_option linter.unusedSimpArgs false
set_option maxRecDepth 100000
theorem kpP:Maps.Keyed Try.prog 58:=Maps.Keyed.of_law (deep_law_gate (by kernel_rfl) (Nat.le_of_ble_eq_true (by kernel_rfl)) (Nat.le_of_ble_eq_true (by kernel_rfl)) (by kernel_rfl) (by kernel_rfl))
def PRg (a:Pl):Prop:=(-9223372036854775808≤a.1∧a.1 < 9223372036854775808)∧-9223372036854775808≤a.2∧a.2 < 9223372036854775808
def plV (a:Pl):Value:=.agg #[.int .i64 a.1,.int .i64 a.2]
def kp (a:Pl):Lit:=.string (keyBytes [.int .i64 a.1,.int .i64 a.2])
theorem wf64 {x:Int} (h:-9223372036854775808≤x∧x < 9223372036854775808):(Lit.int .i64 x).wf=true:=by
 have e1:IntKind.i64.min=-9223372036854775808:=rfl
 have e2:IntKind.i64.max=9223372036854775807:=rfl
 simp only [Lit.wf,e1,e2,Bool.and_eq_true,decide_eq_true_eq]
 omega
theorem keyOf_pl {a:Pl} (h:PRg a):keyOf Try.prog 58 (plV a)=some (kp a):=by
 have w1:=wf64 h.1
 have w2:=wf64 h.2
 have hk:Try.prog.keyType 58=true:=by kernel_rfl
 have hc:Try.prog.cellsOf 58=2:=by kernel_rfl
 have hc3:Try.prog.cellsOf 3=1:=by kernel_rfl
 obtain ⟨m,hm⟩:∃ m,Try.prog.types.size+1=m+2:=⟨Try.prog.types.size - 1,by kernel_rfl⟩
 unfold keyOf plV kp
 simp only [Try.underlying58]
 rw [if_pos (by simp [hk,Value.formed,Try.underlying58,hc]),hm]
 unfold Program.keyLits
 simp only [Try.underlying58,Value.cells]
 simp [hc,hc3,Program.keyLits,Try.underlying3,w1,w2]
theorem kp_inj {a b:Pl} (ha:PRg a) (hb:PRg b) (h:kp a=kp b):a=b:=by
 have h1:=keyOf_pl ha
 rw [h] at h1
 have h2:=kpP.inj h1 (keyOf_pl hb)
 unfold plV at h2
 simp only [Value.agg.injEq,List.toArray_inj,Array.mk.injEq,List.cons.injEq,Value.int.injEq,true_and,and_true] at h2
 exact Prod.ext h2.1 h2.2
def SegM (w:World) (b n:Nat) (f:Pl→Option Int):Prop:=∃ D:DataW Unit,w.ownsMap Try.prog 58 (plainElem Try.prog 3) b n D∧Maps.IsMap D∧∀ a,PRg a→∀ z,D.atKey (kp a) z=match f a with | some s=>.lit (.int .i64 s) | none=>z
theorem lit_ne {H:Type} (s:Int):(DataW.lit (.int .i64 s):DataW H) ≠ .lit (.int .i64 (s+1)):=fun h=>by
 simp only [DataW.lit.injEq,Lit.int.injEq,true_and] at h
 omega
theorem SegM.look {w:World} {b n:Nat} {f:Pl→Option Int} (h:SegM w b n f) (c:Bool) {a:Pl} (ha:PRg a) :
    (Instr.lookup 77 (.map (some b)) (plV a) c).run Try.prog w=.ok (if c then .tuple #[.int .i64 ((f a).getD 0),.bool (f a).isSome] else .int .i64 ((f a).getD 0)) w:=by
 obtain ⟨D,⟨es,clock,hb,F,_,rfl⟩,-,hat⟩:=h
 have hz:(zeroValue 3).run Try.prog w=.ok (.int .i64 0) w:=(zero_of_info (P:=Try.prog) (t:=3) (v:=.int .i64 0) (n:=1) (by kernel_rfl)).1 w
 rcases Maps.fit_look c kpP Try.underlying77 hz hb F (keyOf_pl ha) with ⟨hrun,_,h2⟩ | ⟨e0,y,_,_,hrun,hRv,h2,_⟩
 ·rw [hrun]
  cases hf:f a with
  | none=>cases c <;> rfl
  | some s =>
   have h3:=hat a ha (.lit (.int .i64 (s+1)))
   rw [h2,hf] at h3
   exact absurd h3.symm (lit_ne s)
 ·rw [hrun]
  cases hf:f a with
  | none =>
   have h3:=hat a ha (.lit (.int .i64 0))
   have h4:=hat a ha (.lit (.int .i64 (0+1)))
   rw [h2,hf] at h3 h4
   exact absurd (h3.symm.trans h4) (lit_ne 0)
  | some s =>
   have h3:=hat a ha (.lit (.int .i64 0))
   rw [h2,hf] at h3
   obtain ⟨v,hv,hy,_⟩:=plainElem_int_inv Try.underlying3 hRv
   rw [hy] at h3
   simp only [DataW.lit.injEq,Lit.int.injEq,true_and] at h3
   rw [hv,h3]
   cases c <;> rfl
theorem SegM.put {w:World} {b n:Nat} {f:Pl→Option Int} (h:SegM w b n f) (hn:n < maxLen) {a:Pl} (ha:PRg a) {s:Int} (hs:-9223372036854775808≤s∧s < 9223372036854775808) :
    ∃ w',(Instr.mapUpdate 77 (.map (some b)) (plV a) (.int .i64 s)).run Try.prog w=.ok () w'∧SegM w' b (n+1) (fun x=>if x=a then some s else f x)∧w.grownBy w' (some b):=by
 obtain ⟨D,hm,hD,hat⟩:=h
 obtain ⟨w',hrun,hm',hg⟩:=hm.update kpP Try.underlying77 hn (keyOf_pl ha) (plainElem_int Try.underlying3 (wf64 hs))
 refine ⟨w',hrun,⟨_,hm',?_,fun x hx z=>?_⟩,hg⟩
 ·obtain ⟨es,rfl⟩:=hD
  exact ⟨_,DataW.put_eq _ _ _⟩
 ·by_cases hxa:x=a
  ·subst hxa
   rw [Maps.atKey_put_same hD (kpP.key (keyOf_pl hx))]
   simp
  ·rw [Maps.atKey_put_other (fun h=>hxa (kp_inj hx ha h)),hat x hx z]
   simp [hxa]
theorem SegM.made (w:World):SegM (w.alloc (.map #[] 0)) w.heap.size 0 (fun _=>none):=⟨_,World.ownsMap_made w _ _ _,Maps.isMap_empty,fun _ _ _=>rfl⟩
end Go.Proofs.Ytamnmjckhicapaa
