/- Part 11 of what PlanVersions stands on. No statement is proved here. -/
import Derived.Shelf.Slices.CompactI
import Derived.Shelf.Slices.Clone
import Derived.Test.YtamnmjckhicapaaPtFj
namespace Go.Proofs.Ytamnmjckhicapaa
open Go.RowKit Go.BigFrame Go.WideShapes Go.ChangeShapes Go.Deep
set_option linter.unusedVariables false
set_option linter.unusedSimpArgs false
set_option maxRecDepth 100000
theorem list4 {l:List Value} {n:Nat} {a b c d:Value} (h0:l[n]?=some a) (h1:l[n+1]?=some b) (h2:l[n+2]?=some c) (h3:l[n+3]?=some d):(l.drop n).take 4=[a,b,c,d]:=by
 apply List.ext_getElem?
 intro j
 rw [List.getElem?_take]
 by_cases hj:j < 4
 ·rw [if_pos hj,List.getElem?_drop]
  rcases (by omega:j=0∨j=1∨j=2∨j=3) with rfl | rfl | rfl | rfl
  ·simpa using h0
  ·simpa using h1
  ·simpa using h2
  ·simpa using h3
 ·rw [if_neg hj,List.getElem?_eq_none (by simp; omega)]
theorem rangeAt_sub {w:World} {b o:Nat} {xs:List Value} (h:w.rangeAt b o xs) (n m:Nat):w.rangeAt b (o+n) ((xs.drop n).take m):=fun j v hv=>by
 rw [List.getElem?_take] at hv
 split at hv
 ·rw [List.getElem?_drop] at hv
  have:=h _ _ hv
  rwa [← Nat.add_assoc] at this
 ·cases hv
theorem size_times:(Try.prog.info? 28).map (·.size)=some 4:=by kernel_rfl
set_option maxRecDepth 100000 in
set_option maxHeartbeats 1000000 in
theorem rport_any (g o:Nat) (cl:Nat→Int) (t0 t1 t2 t3 d0 d1 d2 d3 m0 m1 m2 m3:Int) (w:World) (hg:g < w.heap.size) (hc:∀ n,n < 9→w.cell? ⟨g,o+6+n,none⟩=some (.int .i64 (cl n)))
    (r78:w.rangeAt g (o+78) [.int .i64 t0,.int .i64 t1,.int .i64 t2,.int .i64 t3]) (r82:w.rangeAt g (o+82) [.int .i64 d0,.int .i64 d1,.int .i64 d2,.int .i64 d3]) (r64:w.rangeAt g (o+64) [.int .i64 m0,.int .i64 m1,.int .i64 m2,.int .i64 m3]) :
    Calls Try.prog 83 #[.pointer (some ⟨g,o,none⟩)] w (Tells w ((∀ n,n < 9→0≤cl n∧cl n≤1000)∧TF t0 t1 t2 t3∧TF d0 d1 d2 d3∧TF m0 m1 m2 m3)):=by
 have HC:=Lib.hid hc
 have R78:=Lib.hid r78
 have R82:=Lib.hid r82
 have R64:=Lib.hid r64
 clear hc r78 r82 r64
 go_enter Try.func83,Try.ntmps83
 go_wp2_with fail
 refine (all_any g (o+6) w).mono ?_
 rintro e w1 ⟨rfl,hx1⟩
 have HX1:=Lib.hid hx1
 clear hx1
 go_wp2_with fail
 go_loop [9] (fun i=>∃ k:Nat,k≤9∧i=.int .i64 k∧Hid (∀ n,n < k→0≤cl n∧cl n≤1000)) (fun i=>9 - (intOf i).toNat)
 case atStart=>exact ⟨0,by omega,rfl,Lib.hid (fun n hn=>by omega)⟩
 case round =>
  obtain ⟨k,hk,rfl,hn⟩:=hrel
  by_cases hlt:k < 9
  ·have hix:=ptrs_ix g (o+6) k hlt
   have hcell:=(HX1.out.cell (p:=⟨g,o+6+k,none⟩) hg).trans (HC.out k hlt)
   obtain ⟨z,hz⟩:∃ z,cl k=z:=⟨_,rfl⟩
   rw [hz] at hcell
   have HZ:=Lib.hid hz
   clear hz
   by_cases hb:0≤z∧z≤1000
   ·go_wp2_with (go_at_call 81; refine (asb (cwithin_any _ _ _ _) (y:=true) (by simp; omega)).mono ?_; rintro e w' ⟨rfl,rfl⟩)
    go_round
    case rel =>
     refine ⟨k+1,by omega,by go_num,Lib.hid (fun n hn'=>?_)⟩
     by_cases e:n=k
     ·subst e; rw [HZ.out]; exact hb
     ·exact hn.out n (by omega)
    case measure=>simp [intOf]; omega
   ·go_wp2_with (go_at_call 81; refine (asb (cwithin_any _ _ _ _) (y:=false) (by simp; omega)).mono ?_; rintro e w' ⟨rfl,rfl⟩)
    go_ret
    refine ⟨false,rfl,HX1.out,⟨(fun h=>by cases h),(fun h=>?_)⟩⟩
    exfalso
    apply hb
    rw [← HZ.out]
    exact h.1 k hlt
  ·have hall:=Lib.hid (show ∀ n,n < 9→0≤cl n∧cl n≤1000 from fun n hn'=>hn.out n (by omega))
   clear hn
   go_wp2_with (first | fail | ((with_reducible refine at_load 28 ?_); refine wpList_load_mid rfl 28 _ rfl g (o+78) rfl [.int .i64 t0,.int .i64 t1,.int .i64 t2,.int .i64 t3] _ (rangeAt_ext R78.out HX1.out hg) Try.underlying28 rfl size_times ?_))
   refine (told_any t0 t1 t2 t3 w1).mono ?_
   rintro e w2 ⟨f2,rfl,hx2,hf2⟩
   have HX2:=Lib.hid (HX1.out.trans hx2)
   have HF2:=Lib.hid hf2
   clear hx2 hf2 HX1
   cases f2
   ·go_wp2_with fail
    go_ret
    exact ⟨false,rfl,HX2.out,⟨(fun h=>by cases h),(fun h=>absurd (HF2.out.2 h.2.1) (by simp))⟩⟩
   go_wp2_with (first | fail | ((with_reducible refine at_loadG 28 ?_); refine wpList_load_midG rfl 28 _ rfl g (o+82) rfl [.int .i64 d0,.int .i64 d1,.int .i64 d2,.int .i64 d3] _ (rangeAt_ext R82.out HX2.out hg) Try.underlying28 rfl size_times ?_))
   refine (told_any d0 d1 d2 d3 w2).mono ?_
   rintro e w3 ⟨f3,rfl,hx3,hf3⟩
   have HX3:=Lib.hid (HX2.out.trans hx3)
   have HF3:=Lib.hid hf3
   clear hx3 hf3 HX2
   cases f3
   ·go_wp2_with fail
    go_ret
    exact ⟨false,rfl,HX3.out,⟨(fun h=>by cases h),(fun h=>absurd (HF3.out.2 h.2.2.1) (by simp))⟩⟩
   go_wp2_with (first | fail | ((with_reducible refine at_loadG 28 ?_); refine wpList_load_midG rfl 28 _ rfl g (o+64) rfl [.int .i64 m0,.int .i64 m1,.int .i64 m2,.int .i64 m3] _ (rangeAt_ext R64.out HX3.out hg) Try.underlying28 rfl size_times ?_))
   refine (told_any m0 m1 m2 m3 w3).mono ?_
   rintro e w4 ⟨f4,rfl,hx4,hf4⟩
   have HX4:=Lib.hid (HX3.out.trans hx4)
   have HF4:=Lib.hid hf4
   clear hx4 hf4 HX3
   go_wp2_with fail
   go_ret
   exact ⟨f4,rfl,HX4.out,⟨fun h=>⟨hall.out,HF2.out.1 trivial,HF3.out.1 trivial,HF4.out.1 h⟩,fun h=>HF4.out.2 h.2.2.2⟩⟩
end Go.Proofs.Ytamnmjckhicapaa
namespace Go.Proofs.Ytamnmjckhicapaa
open Go.RowKit Go.BigFrame Go.WideShapes Go.ChangeShapes Go.Deep
set_option linter.unusedVariables false
set_option linter.unusedSimpArgs false
set_option maxRecDepth 100000
theorem four_range {w:World} {b o:Nat} {p:List Value} (h:w.rangeAt b o p) (n:Nat) {x0 x1 x2 x3:Value} (he:(p.drop n).take 4=[x0,x1,x2,x3]):w.rangeAt b (o+n) [x0,x1,x2,x3]:=he ▸ rangeAt_sub h n 4
set_option maxRecDepth 100000 in
set_option maxHeartbeats 2000000 in
theorem cright_any (c:Array Value) (B:Br) (w:World) (hb:BrC w c B) (ho:B.ok):Calls Try.prog 69 #[.agg c] w (Tells w (RightP B)):=by
 obtain ⟨s1,s2,s3,hz,hhd,c17,c18,c19,r1,-,-⟩:=hb.facts ho.hd.1
 obtain ⟨a1,k1,rfl,m1,hrow⟩:=r1.form
 have HR:=Lib.hid hrow
 have h2:=(hhd 2 (by decide)).trans (ho.hi 2 rfl)
 have h3:=(hhd 3 (by decide)).trans (ho.hi 3 rfl)
 have h4:=(hhd 4 (by decide)).trans (ho.hi 4 rfl)
 have h5:=(hhd 5 (by decide)).trans (ho.hi 5 rfl)
 have h6:=(hhd 6 (by decide)).trans (ho.hi 6 rfl)
 have h12:=(hhd 12 (by decide)).trans (ho.hi 12 rfl)
 have h13:=(hhd 13 (by decide)).trans (ho.hi 13 rfl)
 have h14:=(hhd 14 (by decide)).trans (ho.hi 14 rfl)
 have h15:=(hhd 15 (by decide)).trans (ho.hi 15 rfl)
 have h16:=(hhd 16 (by decide)).trans (ho.hi 16 rfl)
 clear hz hhd hb r1 hrow c18 c19
 go_enter Try.func69,Try.ntmps69
 by_cases hn:32 < B.np
 ·go_wp2_with fail
  go_ret
  exact ⟨false,rfl,(Ext.refl w).alloc _,⟨(fun h=>by cases h),(fun h=>by have:=h.1.2.2.2.2.2.1; omega)⟩⟩
 have hn':¬ (32 < B.np):=hn
 have hn2:B.np≤32:=by omega
 clear hn
 go_wp2_with fail
 refine (tmright_any _ _ _ _ _).mono ?_
 rintro e w1 ⟨rfl,hx1⟩
 have hbx1:=box_cell hx1
 have HX1:=Lib.hid hx1
 clear hx1
 obtain ⟨f1,hf1⟩:∃ f,rightB (B.hi 2) (B.hi 3) (B.hi 4) (B.hi 5)=f:=⟨_,rfl⟩
 rw [hf1]
 have HF1:=Lib.hid (show f1=true↔TR (B.hi 2) (B.hi 3) (B.hi 4) (B.hi 5) from by rw [← hf1]; exact rightB_iff _ _ _ _)
 clear hf1
 have no:∀ w':World,Ext (w.alloc (.cells c 120)) w'→¬ RightP B→Tells w (RightP B) (.returned (.bool false)) w':=fun w' hx hne=>⟨false,rfl,((Ext.refl w).alloc _).trans hx,⟨(fun h=>by cases h),(fun h=>absurd h hne)⟩⟩
 have NO:=Lib.hid no
 clear no
 cases f1
 ·go_wp2_with fail
  go_ret
  exact NO.out _ HX1.out (fun h=>absurd (HF1.out.2 h.1.1) (by simp))
 by_cases h20:B.hi 2=0
 case neg =>
  have h20b:(B.hi 2 != 0)=true:=by simpa using h20
  go_wp2_with fail
  all_goals
   go_ret
   exact NO.out _ HX1.out (fun h=>h20 h.1.2.2.1)
 have hT:=HF1.out.1 (by simp)
 unfold TR at hT
 rw [h20] at h2
 have H20:=Lib.hid h20
 clear h20
 have HT:=Lib.hid hT
 clear hT
 by_cases h6b:1≤B.hi 6∧B.hi 6≤10
 case neg =>
  go_wp2_with (go_at_call 81; refine (asb (cwithin_any _ _ _ _) (y:=false) (by simp; omega)).mono ?_; rintro e w' ⟨rfl,rfl⟩)
  all_goals
   go_ret
   exact NO.out _ HX1.out (fun h=>h6b ⟨h.1.2.2.2.1,h.1.2.2.2.2.1⟩)
 by_cases h12b:-1≤B.hi 12∧B.hi 12≤(B.np:Int) - 1
 case neg =>
  go_wp2_with fail
  refine (asb (cwithin_any _ _ _ _) (y:=true) (by simp; omega)).mono ?_
  rintro e w' ⟨rfl,rfl⟩
  go_wp2_with fail
  refine (asb (cwithin_any _ _ _ _) (y:=false) (by simp; omega)).mono ?_
  rintro e w' ⟨rfl,rfl⟩
  go_wp2_with fail
  all_goals
   go_ret
   exact NO.out _ HX1.out (fun h=>h12b ⟨h.1.2.2.2.2.2.2.1,by have:=h.1.2.2.2.2.2.2.2; omega⟩)
 go_wp2_with fail
 refine (asb (cwithin_any _ _ _ _) (y:=true) (by simp; omega)).mono ?_
 rintro e w' ⟨rfl,rfl⟩
 go_wp2_with fail
 refine (asb (cwithin_any _ _ _ _) (y:=true) (by simp; omega)).mono ?_
 rintro e w' ⟨rfl,rfl⟩
 go_wp2_with fail
 refine (told_any _ _ _ _ _).mono ?_
 rintro e w2 ⟨f2,rfl,hx2,hf2⟩
 have HX2:=Lib.hid (HX1.out.trans hx2)
 have HF2:=Lib.hid hf2
 have hbx2:=box_cell HX2.out
 clear hx2 hf2 HX1 hbx1
 cases f2
 ·go_wp2_with fail
  go_ret
  exact NO.out _ HX2.out (fun h=>absurd (HF2.out.2 h.1.2.1) (by simp))
 have HH:=Lib.hid (show HdR B from ⟨HF1.out.1 (by simp),HF2.out.1 (by simp),H20.out,h6b.1,h6b.2,hn2,h12b.1,by omega⟩)
 clear HF1 HF2 h2 h3 h4 h5 h6 h12 h13 h14 h15 h16 HT H20 h6b h12b
 go_wp2_with fail
 go_loopw [43] (fun i wr=>∃ j:Nat,j≤B.np∧i=.int .i64 j∧Ext (w.alloc (.cells c 120)) wr∧Hid (∀ k,k < j→PortR B k)) (fun i _=>B.np - (intOf i).toNat)
 case atStart=>exact ⟨0,by omega,rfl,HX2.out,Lib.hid (fun k hk=>by omega)⟩
 case round =>
  clear HX2 hbx2
  obtain ⟨j,hj,rfl,hxr,hall⟩:=hrel
  have hbx:=box_cell hxr
  by_cases hlt:j < B.np
  ·obtain ⟨b,off,rfl,hb,hlc,hcm,hc⟩:=HR.out (by omega)
   have hrw:=rangeAt_ext (rangeAt_ext hc ((Ext.refl w).alloc (.cells c 120)) hb) hxr (by simp; omega)
   have hpr:=port_range hrw j
   have hcl:=Lib.hid (show ∀ n,n < 9→wr.cell? ⟨b,off+j*89+6+n,none⟩=some (.int .i64 (B.gi j (6+n))) from fun n hn'=>by
    rw [show off+j*89+6+n=off+j*89+(6+n) by omega]
    refine hpr (6+n) _ ((port_at (B:=B) (k:=j) (j:=6+n) (by omega)).trans (ho.gi hlt (6+n) ?_))
    rcases (by omega:n=0∨n=1∨n=2∨n=3∨n=4∨n=5∨n=6∨n=7∨n=8) with rfl | rfl | rfl | rfl | rfl | rfl | rfl | rfl | rfl <;> rfl)
   have r78:=Lib.hid (four_range hpr 78 (list4 ((port_at (B:=B) (k:=j) (j:=78) (by decide)).trans (ho.gi hlt 78 rfl)) ((port_at (B:=B) (k:=j) (j:=79) (by decide)).trans (ho.gi hlt 79 rfl)) ((port_at (B:=B) (k:=j) (j:=80) (by decide)).trans (ho.gi hlt 80 rfl)) ((port_at (B:=B) (k:=j) (j:=81) (by decide)).trans (ho.gi hlt 81 rfl))))
   have r82:=Lib.hid (four_range hpr 82 (list4 ((port_at (B:=B) (k:=j) (j:=82) (by decide)).trans (ho.gi hlt 82 rfl)) ((port_at (B:=B) (k:=j) (j:=83) (by decide)).trans (ho.gi hlt 83 rfl)) ((port_at (B:=B) (k:=j) (j:=84) (by decide)).trans (ho.gi hlt 84 rfl)) ((port_at (B:=B) (k:=j) (j:=85) (by decide)).trans (ho.gi hlt 85 rfl))))
   have r64:=Lib.hid (four_range hpr 64 (list4 ((port_at (B:=B) (k:=j) (j:=64) (by decide)).trans (ho.gi hlt 64 rfl)) ((port_at (B:=B) (k:=j) (j:=65) (by decide)).trans (ho.gi hlt 65 rfl)) ((port_at (B:=B) (k:=j) (j:=66) (by decide)).trans (ho.gi hlt 66 rfl)) ((port_at (B:=B) (k:=j) (j:=67) (by decide)).trans (ho.gi hlt 67 rfl))))
   have HXR:=Lib.hid hxr
   have hbr:=Lib.hid (show b < wr.heap.size from Nat.lt_of_lt_of_le (by simp; omega) hxr.size)
   clear hrw hpr hxr hc
   go_wp2_with fail
   refine (rport_any b (off+j*89) (fun n=>B.gi j (6+n)) _ _ _ _ _ _ _ _ _ _ _ _ wr hbr.out hcl.out r78.out r82.out r64.out).mono ?_
   rintro e w3 ⟨f3,rfl,hx3,hf3⟩
   have HX3:=Lib.hid (HXR.out.trans hx3)
   have HF3:=Lib.hid hf3
   clear hx3 hf3
   cases f3
   ·go_wp2_with fail
    go_ret
    exact NO.out _ HX3.out (fun h=>absurd (HF3.out.2 ⟨(h.2 j hlt).1,(h.2 j hlt).2.1,(h.2 j hlt).2.2.1,(h.2 j hlt).2.2.2⟩) (by simp))
   ·go_wp2_with fail
    go_roundw
    case rel =>
     refine ⟨j+1,by omega,by go_num,HX3.out,Lib.hid (fun n hn'=>?_)⟩
     by_cases e:n=j
     ·subst e
      exact HF3.out.1 trivial
     ·exact hall.out n (by omega)
    case measure=>simp [intOf]; omega
  ·go_wp2_with fail
   go_ret
   exact ⟨true,rfl,((Ext.refl w).alloc _).trans hxr,⟨fun _=>⟨HH.out,fun k hk=>hall.out k (by omega)⟩,fun _=>rfl⟩⟩
end Go.Proofs.Ytamnmjckhicapaa
namespace Go.Proofs.Ytamnmjckhicapaa
open Go.RowKit Go.BigFrame Go.WideShapes Go.ChangeShapes Go.Deep
set_option linter.unusedVariables false
set_option linter.unusedSimpArgs false
set_option maxRecDepth 100000
def RowAt (w:World) (v:Value) (n m:Nat) (f:Nat→List Value):Prop:=∃ a cap,v=.slice a n cap∧n≤100000∧(0 < n→∃ b off,a=some ⟨b,off,none⟩∧b < w.heap.size∧n≤cap∧cap≤9223372036854775807∧∀ i,i < n→w.rangeAt b (off+i*m) (f i))
theorem RowAt.ext {w w':World} {v:Value} {n m:Nat} {f:Nat→List Value} (h:RowAt w v n m f) (hx:Ext w w'):RowAt w' v n m f:=by
 obtain ⟨a,cap,e,hm,hf⟩:=h
 refine ⟨a,cap,e,hm,fun h0=>?_⟩
 obtain ⟨b,off,e1,hb,h1,h2,h3⟩:=hf h0
 exact ⟨b,off,e1,Nat.lt_of_lt_of_le hb hx.size,h1,h2,fun i hi=>rangeR_ext (h3 i hi) hx hb⟩
structure Pt where
 pid:Int
 cost:Int
 sh:Bool
 ad:Bool
 au:Bool
 deriving Inhabited,DecidableEq
def Pt.L (p:Pt):List Value:=[.int .u16 p.pid,.int .u32 p.cost,.bool p.sh,.bool p.ad,.bool p.au]
structure Nd where
 id:Int
 rst:Bool
 ports:List Pt
 deriving Inhabited,DecidableEq
abbrev Pl:=Int × Int
def plL (p:Pl):List Value:=[.int .i64 p.1,.int .i64 p.2]
def PtsAt (w:World) (v:Value) (P:List Pt):Prop:=RowAt w v P.length 5 (fun i=>(P.getD i default).L)
def PlAt (w:World) (v:Value) (S:List Pl):Prop:=RowAt w v S.length 2 (fun i=>plL (S.getD i (0,0)))
def NodesAt (w:World) (v:Value) (N:List Nd):Prop:=∃ pv:Nat→Value,RowAt w v N.length 3 (fun i=>[.int .u64 (N.getD i default).id,.bool (N.getD i default).rst,pv i])∧∀ i,i < N.length→PtsAt w (pv i) (N.getD i default).ports
def SegsAt (w:World) (v:Value) (S:List (List Pl)):Prop:=∃ sv:Nat→Value,RowAt w v S.length 1 (fun i=>[sv i])∧∀ i,i < S.length→PlAt w (sv i) (S.getD i [])
def BoolsAt (w:World) (v:Value) (U:List Bool):Prop:=RowAt w v U.length 1 (fun i=>[.bool (U.getD i false)])
theorem NodesAt.ext {w w':World} {v:Value} {N:List Nd} (h:NodesAt w v N) (hx:Ext w w'):NodesAt w' v N:=by
 obtain ⟨pv,h1,h2⟩:=h
 exact ⟨pv,h1.ext hx,fun i hi=>RowAt.ext (h2 i hi) hx⟩
theorem SegsAt.ext {w w':World} {v:Value} {S:List (List Pl)} (h:SegsAt w v S) (hx:Ext w w'):SegsAt w' v S:=by
 obtain ⟨sv,h1,h2⟩:=h
 exact ⟨sv,h1.ext hx,fun i hi=>RowAt.ext (h2 i hi) hx⟩
theorem PlAt.nil (w:World):PlAt w (.slice none 0 0) []:=⟨none,0,rfl,by simp,fun h=>by simp at h⟩
theorem range_one {w:World} {b o:Nat} {l:List Value} (h:w.rangeAt b o l) {j:Nat} {v:Value} (hv:l[j]?=some v):w.cell? ⟨b,o+j,none⟩=some v:=h j v hv
def BoxAt (w:World) (X:Nat) (c:Array Value) (t:TypeId):Prop:=w.heap[X]?=some (.cells c t (0,0))
theorem BoxAt.ext {w w':World} {X:Nat} {c:Array Value} {t:TypeId} (h:BoxAt w X c t) (hx:Ext w w'):BoxAt w' X c t:=(hx.block X (heap_lt h)).trans h
theorem BoxAt.cell {w:World} {X:Nat} {c:Array Value} {t:TypeId} (h:BoxAt w X c t) (j:Nat) {v:Value} (hv:c[j]?=some v):w.cell? ⟨X,j,none⟩=some v:=by rw [cell_row h]; exact hv
theorem bx_row {P:Program} {ops:Array Oper} {rest:List Oper} {op:Oper} {a:Act} {w:World} {Q:Exit→Act→World→Prop} (hgd:op.guard=none) (t:TypeId) (x:Operand) (ho:op.op=.box t x) (cells:Array Value) (hx:(a.eval x).cells=cells)
    (h:∀ (X:Nat) (w':World),w'.heap[X]?=some (.cells cells t (0,0))→w.heap.size=X→Ext w w'→wpList P ops Q rest (a.put op.dst (.pointer (some ⟨X,0,none⟩))) w'):wpList P ops Q (op :: rest) a w:=by
 subst hx
 refine wpList_plain hgd fun K hK=>?_
 unfold Oper.wp execOp
 simp only [ho,Sem.run_bind,Instr.box,newVar,newRow,run_newObj_alloc,Sem.run_pure,Result.andThen_ok]
 exact hK _ _ (h _ _ (heap_alloc_new _ _) rfl ((Ext.refl w).alloc _))
theorem at_box (T:TypeId) {P:Program} {ops:Array Oper} {rest:List Oper} {a:Act} {w:World} {Q:Exit→Act→World→Prop} {d:Option Tmp} {x:Operand} {ty:TypeId} {pos:String} {after:Array Edge}
    (h:wpList P ops Q ({ dst:=d,op:=.box T x,type:=ty,pos:=pos,after:=after,guard:=none } :: rest) a w):wpList P ops Q ({ dst:=d,op:=.box T x,type:=ty,pos:=pos,after:=after,guard:=none } :: rest) a w:=h
theorem ownR_ext {w w':World} {base m n:Nat} {e:TypeId} {v:Value} {xs:List Value} (h:w.ownsRow base e m v n xs) (hx:Ext w w'):w'.ownsRow base e m v n xs:=by
 refine ⟨h.1,?_⟩
 rcases h.2 with hn | ⟨g,cap,cur,rfl,hb,hg,rest⟩
 ·exact .inl hn
 ·exact .inr ⟨g,cap,cur,rfl,hb,(hx.block g (heap_lt hg)).trans hg,rest⟩
theorem ext_grown {w0 w1 w2:World} {base m n:Nat} {e:TypeId} {v:Value} {xs:List Value} (hx:Ext w0 w1) (ho:w1.ownsRow base e m v n xs) (hb:w0.heap.size≤base) (hg:w1.grownBy w2 v.ownBlock):Ext w0 w2 :=
 Mut.ext (F:=fun _=>False) ⟨hg.os.trans hx.os,hg.tape.trans hx.tape,hg.output.trans hx.output,Nat.le_trans hx.size hg.size,fun k hk _=>(hg.block k (Nat.lt_of_lt_of_le hk hx.size) (fun e=>by have:=(own_lt2 ho e.symm).1; omega)).trans (hx.block k hk)⟩ (fun _ _ h=>h)
def iv (ss:List Int):List Value:=ss.map (Value.int .i64)
theorem nums_own {w:World} {base g cap:Nat} {ss:List Int} {n:Nat} (h:w.ownsRow base 3 1 (.slice (some ⟨g,0,none⟩) n cap) n (iv ss)) (hn:n=ss.length):Nums w g ss∧base≤g∧n≤cap:=by
 rcases h.2 with ⟨h0,_⟩ | ⟨g',cap',cur,hv,hb,hg,h1,h2,h3,h4⟩
 ·cases h0
 ·cases hv
  refine ⟨⟨cur,hg,fun i hi=>?_⟩,hb,h1⟩
  have:(cur.toList.take (n*1))[i]?=(iv ss)[i]?:=by rw [h4]
  rw [Nat.mul_one,List.getElem?_take_of_lt (by omega),Array.getElem?_toList] at this
  rw [this]
  simp [iv,hi,at0,List.getD]
end Go.Proofs.Ytamnmjckhicapaa
namespace Go.Proofs.Ytamnmjckhicapaa
open Go.RowKit Go.BigFrame Go.WideShapes Go.ChangeShapes Go.Deep
set_option linter.unusedVariables false
set_option linter.unusedSimpArgs false
set_option maxRecDepth 100000
def renC:Shelf.Ren:={ f:=fun x=>match x with | 20=>53 | n=>n,t:=fun x=>match x with | 22=>56 | 3=>3 | 4=>4 | 0=>0 | n=>n,g:=fun x=>x }
theorem lays_renC:Lays2.n20 Try.prog renC where
 mixed:=by kernel_rfl
 f20:=by kernel_rfl
 t0:=by kernel_rfl
 a0:=fun _=>rfl
 z0:=fun _=>rfl
 v0:=fun _=>rfl
 t3:=by kernel_rfl
 a3:=fun _=>rfl
 z3:=fun _=>rfl
 v3:=fun _=>rfl
 t4:=by kernel_rfl
 a4:=fun _=>rfl
 z4:=fun _=>rfl
 v4:=fun _=>rfl
 t22:=by kernel_rfl
 a22:=fun _=>rfl
 z22:=fun _=>rfl
 v22:=fun _=>rfl
 i3:=by kernel_rfl
def renK:Shelf.Ren:={ f:=fun x=>match x with | 15=>35 | n=>n,t:=fun x=>match x with | 22=>56 | 3=>3 | 4=>4 | 0=>0 | n=>n,g:=fun x=>x }
theorem lays_renK:Lays2.n15 Try.prog renK where
 mixed:=by kernel_rfl
 f15:=by kernel_rfl
 t3:=by kernel_rfl
 a3:=fun _=>rfl
 z3:=fun _=>rfl
 v3:=fun _=>rfl
 t4:=by kernel_rfl
 a4:=fun _=>rfl
 z4:=fun _=>rfl
 v4:=fun _=>rfl
 t22:=by kernel_rfl
 a22:=fun _=>rfl
 z22:=fun _=>rfl
 v22:=fun _=>rfl
 i3:=by kernel_rfl
theorem mut_putRow (w:World) (q g:Nat) (d:Array Int):Mut (fun k=>k=g) w (Sort.putRow (Value.int .i64) (Sort.ahead w q) g 0 d):=by
 unfold Sort.putRow Sort.mapBlock Sort.ahead
 refine ⟨rfl,rfl,rfl,by simp,fun k hk hf=>?_⟩
 simp [Array.getElem?_modify,Ne.symm hf]
theorem Nums.holds {w:World} {g:Nat} {l:List Int} (h:Nums w g l):Sort.Holds (Value.int .i64) w g 0 l.toArray:=fun j hj=>by
 have hj2:j < l.length:=by simpa using hj
 rw [Nat.zero_add,arr_at l hj2]
 exact ⟨h.cell hj2,h.froz j⟩
theorem cmp_len (l:List Int):(Lib.compact l).length≤l.length:=by
 unfold Lib.compact Lib.compactUpTo
 rw [List.length_map]
 exact Nat.le_trans (List.length_filter_le _ _) (by simp)
theorem nums_of_holds {w:World} {g:Nat} {l:List Int} {cs:Array Value} (hb:w.heap[g]?=some (.cells cs 3 (0,0))) (d:List Int) (hd:l.length≤d.length) (hh:Sort.Holds (Value.int .i64) w g 0 d.toArray) (hl:∀ i,i < l.length→at0 l i=at0 d i):Nums w g l:=by
 refine ⟨cs,hb,fun i hi=>?_⟩
 have:=(hh i (by simp; omega)).1
 rw [Nat.zero_add,cell_row hb,arr_at d (by omega)] at this
 rw [this,hl i hi]
theorem compi_any (w:World) (g n cap:Nat) (l:List Int) (h:Nums w g l) (hl:l.length=n) (hcap:n≤cap) (hn:n≤1000) :
    Calls Try.prog 53 #[.slice (some ⟨g,0,none⟩) n cap] w fun e w'=>e=.returned (.slice (some ⟨g,0,none⟩) (Lib.compact l).length cap)∧Nums w' g (Lib.compact l)∧Mut (fun k=>k=g) w w':=by
 subst hl
 refine (Any.slices_Compact_int lays_renC g 0 cap l w h.holds (by omega) hcap).mono ?_
 rintro e w' ⟨he,q,rfl⟩
 have hm:=mut_putRow w q g (Lib.compact l ++ List.replicate (l.length - (Lib.compact l).length) 0).toArray
 have hlen:=cmp_len l
 have hh:=Sort.holds_putRow (Value.int .i64) (Sort.ahead w q) g 0 l.toArray (Lib.compact l ++ List.replicate (l.length - (Lib.compact l).length) 0).toArray (Sort.holds_ahead (Value.int .i64) w q g 0 l.toArray h.holds) (by simp; omega)
 refine ⟨he,?_,hm⟩
 obtain ⟨cur,h1,h2⟩:=h
 have hg:g < w.heap.size:=heap_lt h1
 have hg':w.heap[g]=.cells cur 3 (0,0):=(Array.getElem?_eq_some_iff.1 h1).2
 obtain ⟨cs,hcs⟩:∃ cs,(Sort.putRow (Value.int .i64) (Sort.ahead w q) g 0 (Lib.compact l ++ List.replicate (l.length - (Lib.compact l).length) 0).toArray).heap[g]?=some (.cells cs 3 (0,0)):=by
  refine ⟨Sort.putCells (Value.int .i64) 0 (Lib.compact l ++ List.replicate (l.length - (Lib.compact l).length) 0).toArray cur,?_⟩
  unfold Sort.putRow Sort.mapBlock Sort.ahead
  simp [Array.getElem_modify,hg,hg',Sort.onCells]
 exact nums_of_holds hcs _ (by simp) hh (fun i hi=>by simp [at0,List.getD,List.getElem?_append_left hi])
end Go.Proofs.Ytamnmjckhicapaa
namespace Go.Proofs.Ytamnmjckhicapaa
open Go.RowKit Go.BigFrame Go.WideShapes Go.ChangeShapes Go.Deep
set_option linter.unusedVariables false
set_option linter.unusedSimpArgs false
set_option maxRecDepth 100000
def PZ2:Array Value:=#[.int .i64 0,.int .i64 0]
theorem zero_pl:∀ w,(zeroValue 58).run Try.prog w=.ok (.agg PZ2) w:=(zero_of_info (P:=Try.prog) (t:=58) (v:=.agg PZ2) (n:=2) (by kernel_rfl)).1
theorem size_pl:(Try.prog.info? 58).map (·.size)=some 2:=by kernel_rfl
def brF (S:List Pl):List Int:=Lib.compact ((S.map Prod.fst).mergeSort (fun x y=>!ltI y x))
theorem sorted_is {l l':List Int} {n:Nat} (h0:l.length=n) (hl:l'.length=n) (hp:Go.Sort.PermIn 0 n l.toArray l'.toArray) (hs:Go.Sort.SortedIn ltI 0 n l'.toArray):l'=l.mergeSort (fun x y=>!ltI y x):=by
 subst h0
 have:=Go.Sort.sorted_unique_holds Go.Sort.swo_ltInt (fun x y h1 h2=>by
  have a1:decide (x < y)=false:=h1
  have a2:decide (y < x)=false:=h2
  have b1:=of_decide_eq_false a1
  have b2:=of_decide_eq_false a2
  omega) l.toArray l'.toArray (by simpa using hp) (by simpa [hl] using hs)
 simpa using this
set_option maxRecDepth 100000 in
set_option maxHeartbeats 4000000 in
theorem sorti_any (w:World) (g n cap:Nat) (l0:List Int) (hn:n≤60) (h:Nums w g l0) (hl:l0.length=n) :
    Calls Try.prog 52 #[.slice (some ⟨g,0,none⟩) n cap] w fun e w'=>e=.returned (.tuple #[])∧Nums w' g (l0.mergeSort (fun x y=>!ltI y x))∧Mut (fun k=>k=g) w w':=by
 have HI:=Lib.hid (pdqx_any g n cap hn (n - 0) w l0 0 n (Go.Sort.bitsLen n) rfl (Nat.le_refl _) (Nat.zero_le _) (Or.inl rfl) (len_6 hn) h hl)
 have hw:IntKind.u64.wrap (n:Int)=n:=by rw [IntKind.wrap_u64]; omega
 clear h
 go_enter Try.func52,Try.ntmps52
 go_wp2_with fail
 refine (lenx_any n hn _).mono ?_
 rintro e w1 ⟨rfl,rfl⟩
 go_wp2_with fail
 refine HI.out.mono ?_
 rintro e w2 ⟨rfl,l,hnu,hln,⟨hp,hs⟩,hmu⟩
 have HO:=Lib.hid (show Nums w2 g (l0.mergeSort (fun x y=>!ltI y x))∧Mut (fun k=>k=g) w1 w2 from by
  rw [← sorted_is hl hln hp hs]
  exact ⟨hnu,hmu⟩)
 clear hnu hp hs hmu
 go_wp2_with fail
 go_end0
 exact ⟨rfl,HO.out.1,HO.out.2⟩
theorem compnil_any (w:World) (p:Option Addr) (cap:Nat):Calls Try.prog 53 #[.slice p 0 cap] w fun e w'=>e=.returned (.slice p 0 cap)∧w=w':=by
 go_enter Try.func53,Try.ntmps53
 go_wp2_with fail
 go_ret
 exact ⟨rfl,rfl⟩
def IntsR (w:World) (b:Nat) (v:Value) (l:List Int):Prop:=(l=[]∧v=.slice none 0 0)∨∃ g cap,v=.slice (some ⟨g,0,none⟩) l.length cap∧Nums w g l∧l.length≤cap∧b≤g
theorem IntsR.ext {w w':World} {b:Nat} {v:Value} {l:List Int} (h:IntsR w b v l) (hx:Ext w w'):IntsR w' b v l:=by
 rcases h with h | ⟨g,cap,h1,h2,h3⟩
 ·exact .inl h
 ·exact .inr ⟨g,cap,h1,h2.ext hx,h3⟩
set_option maxRecDepth 100000 in
set_option maxHeartbeats 4000000 in
theorem bridges_any (w:World) (v:Value) (S:List Pl) (h:PlAt w v S) (hn:S.length≤60) :
    Calls Try.prog 34 #[v] w fun e w'=>∃ v',e=.returned v'∧IntsR w' w.heap.size v' (brF S)∧Ext w w':=by
 obtain ⟨sa,scap,rfl,hsm,hsf⟩:=h
 obtain ⟨i3,hi3,hz3,hs3,hb3⟩:=info_parts info_int
 have I3:=Lib.hid (And.intro hi3 (And.intro hz3 (And.intro hs3 hb3)))
 obtain ⟨n,hnn⟩:∃ n,S.length=n:=⟨_,rfl⟩
 rw [hnn] at hn hsm hsf ⊢
 have HSF:=Lib.hid hsf
 have HNN:=Lib.hid hnn
 clear hi3 hz3 hs3 hb3 hsf hnn
 go_enter Try.func34,Try.ntmps34
 go_wp2_with fail
 go_loopw [3,8] (fun s t wr=>∃ (k:Nat) (u:Value) (wo:World),wo=wr∧u=s∧t=.int .i64 k∧k≤n∧(k=0→u=.slice none 0 0)∧wo.ownsRow w.heap.size 3 1 u k (iv ((S.take k).map Prod.fst))∧Ext w wo) (fun _ t _=>n - (intOf t).toNat)
 case atStart=>exact ⟨0,_,_,rfl,rfl,rfl,by omega,fun _=>rfl,⟨by simp [iv],.inl ⟨rfl,rfl⟩⟩,Ext.refl _⟩
 case round =>
  obtain ⟨k,u,wo,rfl,rfl,rfl,hk,hk0n,hown,hx⟩:=hrel
  rename World=>wr
  have HK0:=Lib.hid hk0n
  clear hk0n
  have HO:=Lib.hid hown
  have HX:=Lib.hid hx
  clear hown hx
  by_cases hlt:k < n
  ·have dlt:decide ((k:Int) < (n:Int))=true:=by simp; omega
   obtain ⟨sb,so,rfl,hsb,hs2,hs3,hs4⟩:=HSF.out (by omega)
   obtain ⟨p,q,hpq⟩:∃ p q,S.getD k (0,0)=(p,q):=⟨_,_,rfl⟩
   have RS:=Lib.hid (show wr.rangeAt sb (so+k*2) [.int .i64 p,.int .i64 q] from by
    have h4:=rangeR_ext (hs4 k hlt) HX.out hsb
    rw [hpq] at h4
    exact h4)
   have HST:=Lib.hid (show iv ((S.take (k+1)).map Prod.fst)=iv ((S.take k).map Prod.fst) ++ [.int .i64 p] from by
    have hkl:k < S.length:=by have:=HNN.out; omega
    rw [List.take_succ_eq_append_getElem hkl]
    have he:S[k]=(p,q):=by rw [← hpq,List.getD_eq_getElem?_getD,List.getElem?_eq_getElem hkl]; rfl
    simp [iv,he])
   have hup:IntKind.i64.wrap ((k:Int)+1)=((k+1:Nat):Int):=by rw [IntKind.wrap_i64]; omega
   clear hs4 hpq
   go_wp2_with (first
    | fail
    | ((with_reducible refine at_load 58 ?_); refine wpList_load_mid rfl 58 _ rfl sb (so+k*2) rfl [.int .i64 p,.int .i64 q] _ RS.out Try.underlying58 rfl size_pl ?_)
    | ((with_reducible refine at_alloc 58 ?_); refine al_zero rfl 58 rfl PZ2 zero_pl ?_
       intro G w4 hq4 hsz4 hx4)
    | ((with_reducible refine at_store 58 ?_); refine st_at rfl rfl 58 _ _ rfl G 0 _ #[.int .i64 p,.int .i64 q] PZ2 #[.int .i64 p,.int .i64 q] 58 rfl rfl rfl hq4 (by exact (by decide:0+2≤2)) (by kernel_rfl) rfl rfl ?_
       intro w5 hq5 hm5
       have E5:Ext wr w5:=hx4.mutE hm5 (fun n hn h=>by have h2:n=G:=h; omega)
       have c5:w5.cell? ⟨G,0,none⟩=some (.int .i64 p):=by rw [cell_row hq5]; rfl
       have HE5:=Lib.hid (HX.out.trans E5)
       have HO5:=Lib.hid ((ownR_ext HO.out E5).alloc (.cells #[.int .i64 p] 3))
       have HNW:=Lib.hid (fun (j:Nat) (u:Value) (hu:[Value.int .i64 p][j]?=some u)=>World.news_of_block (heap_alloc_new w5 (.cells #[.int .i64 p] 3)) j u (by simpa using hu))
       have hbz:w.heap.size≤(w5.alloc (.cells #[.int .i64 p] 3)).heap.size:=by have:=HE5.out.size; simp; omega
       clear hq4 hsz4 hx4 hq5 hm5 E5 w4)
    | (at_builtin; refine wpList_append_own_at _ rfl _ _ 56 rfl w.heap.size 3 i3 (.int .i64 0) 1 8 Try.underlying56 I3.out.1 I3.out.2.1 I3.out.2.2.1 I3.out.2.2.2 rfl (by decide) _ k (iv ((S.take k).map Prod.fst)) rfl HO5.out ⟨w5.heap.size,0,none⟩ 1 1 [.int .i64 p] rfl rfl HNW.out (by simp; rfl) (by unfold maxLen; omega) (by omega) hbz ?_
       intro v6 w6 ho6 hg6 _ _
       have HX6:=Lib.hid (ext_grown (HE5.out.alloc (.cells #[.int .i64 p] 3)) HO5.out (Nat.le_refl _) hg6)
       have HO6:=Lib.hid (show w6.ownsRow w.heap.size 3 1 v6 (k+1) (iv ((S.take (k+1)).map Prod.fst)) from by rw [HST.out]; exact ho6)
       clear ho6 hg6))
   go_roundw
   case rel=>exact ⟨k+1,_,_,rfl,rfl,by go_num,by omega,fun h=>by omega,HO6.out,HX6.out⟩
   case measure=>simp [intOf] <;> omega
  ·have dlt:decide ((k:Int) < (n:Int))=false:=by simp; omega
   obtain rfl:k=n:=by omega
   have HOF:=Lib.hid (show wr.ownsRow w.heap.size 3 1 u k (iv (S.map Prod.fst)) from by
    have:=HO.out
    rwa [List.take_of_length_le (by have:=HNN.out; omega)] at this)
   have HML:=Lib.hid (show (S.map Prod.fst).length=k from by rw [List.length_map]; exact HNN.out)
   by_cases hk0:k=0
   ·obtain rfl:=hk0
    obtain rfl:u=.slice none 0 0:=HK0.out rfl
    have hb0:brF S=[]:=by
     have:S=[]:=List.eq_nil_of_length_eq_zero HNN.out
     rw [this]
     simp [brF,Lib.compact,Lib.compactUpTo]
    have HB0:=Lib.hid hb0
    clear hb0 dlt hlt
    go_wp2_with fail
    refine (sort_nil _ none 0).mono ?_
    rintro e w2 ⟨rfl,rfl⟩
    go_wp2_with fail
    refine (compnil_any _ none 0).mono ?_
    rintro e w2 ⟨rfl,rfl⟩
    go_wp2_with fail
    go_ret
    exact ⟨_,rfl,.inl ⟨HB0.out,rfl⟩,HX.out⟩
   ·obtain ⟨q,hq⟩:∃ q,k=q+1:=⟨k - 1,by omega⟩
    obtain ⟨g,cap,hv⟩:∃ g cap,u=.slice (some ⟨g,0,none⟩) k cap:=by
     rcases HOF.out.2 with ⟨_,h⟩ | ⟨g,cap,cur,h,_⟩
     ·exact absurd h hk0
     ·exact ⟨g,cap,h⟩
    subst hv
    obtain ⟨hnu,hgb,hcap⟩:=nums_own HOF.out HML.out.symm
    have HNU:=Lib.hid hnu
    clear hnu hq dlt hlt
    go_wp2_with fail
    refine (sorti_any wr g k cap _ hn HNU.out HML.out).mono ?_
    rintro e w2 ⟨rfl,hnu2,hmu2⟩
    have HNU2:=Lib.hid hnu2
    have HX2:=Lib.hid (HX.out.mutE hmu2 (fun n hn h=>by have h2:n=g:=h; omega))
    clear hnu2 hmu2
    go_wp2_with fail
    refine (compi_any w2 g k cap _ HNU2.out (by rw [List.length_mergeSort]; exact HML.out) hcap (by omega)).mono ?_
    rintro e w3 ⟨rfl,hnu3,hmu3⟩
    have HNU3:=Lib.hid hnu3
    have HX3:=Lib.hid (HX2.out.mutE hmu3 (fun n hn h=>by have h2:n=g:=h; omega))
    have hcl:=cmp_len ((S.map Prod.fst).mergeSort (fun x y=>!ltI y x))
    have HCL:=Lib.hid (show (brF S).length≤cap from by
     refine Nat.le_trans hcl ?_
     rw [List.length_mergeSort,HML.out]
     exact hcap)
    clear hnu3 hmu3 hcl
    go_wp2_with fail
    go_ret
    exact ⟨_,rfl,  .inr ⟨g,cap,rfl,HNU3.out,HCL.out,hgb⟩,HX3.out⟩
end Go.Proofs.Ytamnmjckhicapaa
namespace Go.Proofs.Ytamnmjckhicapaa
open Go.RowKit Go.BigFrame Go.WideShapes Go.ChangeShapes Go.Deep
set_option linter.unusedVariables false
set_option linter.unusedSimpArgs false
set_option maxRecDepth 100000
def costA (N:List Nd) (p:Pl):Int:=((N.getD p.1.toNat default).ports.getD p.2.toNat default).cost
def h3 (N:List Nd) (f:Int) (seg:List Pl):List Hp:=(seg.filter (fun p=>!(p.1 == f))).map (fun p=>(⟨f,p.1,costA N p⟩:Hp))
def h2 (N:List Nd) (seg:List Pl) (fs:List Int):List Hp:=fs.flatMap (fun f=>h3 N f seg)
def hopsF (N:List Nd) (S:List (List Pl)):List Hp:=S.flatMap (fun seg=>h2 N seg (brF seg))
def PlOk (N:List Nd) (p:Pl):Prop:=0≤p.1∧p.1 < N.length∧0≤p.2∧p.2 < ((N.getD p.1.toNat default).ports.length:Int)
def CostOk (N:List Nd):Prop:=∀ x ∈ N,∀ q ∈ x.ports,0≤q.cost∧q.cost < 4294967296
theorem costA_ok {N:List Nd} (h:CostOk N) {p:Pl} (hp:PlOk N p):0≤costA N p∧costA N p < 4294967296:=by
 obtain ⟨h1,h2,h3,h4⟩:=hp
 have e1:p.1.toNat < N.length:=by omega
 have e2:N.getD p.1.toNat default=N[p.1.toNat]:=by simp [List.getD_eq_getElem?_getD,e1]
 rw [e2] at h4
 have e3:p.2.toNat < N[p.1.toNat].ports.length:=by omega
 unfold costA
 rw [e2]
 have e4:N[p.1.toNat].ports.getD p.2.toNat default=N[p.1.toNat].ports[p.2.toNat]:=by simp [List.getD_eq_getElem?_getD,e3]
 rw [e4]
 exact h _ (List.getElem_mem e1) _ (List.getElem_mem e3)
theorem flat_len {α β:Type} (f:α→List β) (M:Nat):∀ l:List α,(∀ x ∈ l,(f x).length≤M)→(l.flatMap f).length≤l.length*M
 | [],_=>by simp
 | a :: r,h=>by
  rw [List.flatMap_cons,List.length_append,List.length_cons,Nat.add_mul,Nat.one_mul]
  have:=flat_len f M r (fun x hx=>h x (by simp [hx]))
  have:=h a (by simp)
  omega
theorem h3_len (N:List Nd) (f:Int) (seg:List Pl):(h3 N f seg).length≤seg.length:=by
 unfold h3
 rw [List.length_map]
 exact List.length_filter_le _ _
theorem brF_len (seg:List Pl):(brF seg).length≤seg.length:=by
 refine Nat.le_trans (cmp_len _) ?_
 rw [List.length_mergeSort,List.length_map]
 exact Nat.le_refl _
theorem h2_len (N:List Nd) (seg:List Pl) (fs:List Int) (M:Nat) (hs:seg.length≤M):(h2 N seg fs).length≤fs.length*M :=
 flat_len _ M fs (fun f _=>Nat.le_trans (h3_len N f seg) hs)
theorem hopsF_len (N:List Nd) (S:List (List Pl)) (M:Nat) (hs:∀ seg ∈ S,seg.length≤M):(hopsF N S).length≤S.length*(M*M) :=
 flat_len _ (M*M) S (fun seg h=>Nat.le_trans (h2_len N seg _ M (hs seg h)) (Nat.mul_le_mul_right M (Nat.le_trans (brF_len seg) (hs seg h))))
theorem h3_snoc (N:List Nd) (f:Int) (l:List Pl) (p:Pl):h3 N f (l ++ [p])=h3 N f l ++ if p.1 == f then [] else [⟨f,p.1,costA N p⟩]:=by
 unfold h3
 rw [List.filter_append,List.map_append]
 congr 1
 cases h:p.1 == f with
 | true=>simp [h]
 | false=>simp [h]
theorem h2_snoc (N:List Nd) (seg:List Pl) (fs:List Int) (f:Int):h2 N seg (fs ++ [f])=h2 N seg fs ++ h3 N f seg:=by simp [h2]
theorem hopsF_snoc (N:List Nd) (S:List (List Pl)) (seg:List Pl):hopsF N (S ++ [seg])=hopsF N S ++ h2 N seg (brF seg):=by simp [hopsF]
theorem take_snoc {α:Type} (l:List α) (d:α) {k:Nat} (h:k < l.length):l.take (k+1)=l.take k ++ [l.getD k d]:=by
 rw [List.take_succ_eq_append_getElem h]
 congr 2
 simp [List.getD_eq_getElem?_getD,h]
theorem hop_bl (f t c:Int):Try.prog.built 100 [(0,.int .i64 f),(1,.int .i64 t),(2,.int .u32 c)]=some #[.int .i64 f,.int .i64 t,.int .u32 c]:=by kernel_rfl
theorem HopsAt.own {w:World} {base:Nat} {v:Value} {L:List Hp} (h:w.ownsRow base 100 3 v L.length (flatH L)) (hL:L.length≤100000):HopsAt w v L:=by
 have hf:=own_form2 h
 obtain ⟨a,cap,rfl⟩:=hf
 refine ⟨a,cap,rfl,by omega,fun h0=>?_⟩
 rcases h.2 with ⟨e,e2⟩ | ⟨g,cap2,cur,e,hb,hg,hn,hm,hs,ht⟩
 ·omega
 ·cases e
  refine ⟨g,0,rfl,heap_lt hg,hn,by unfold maxLen at hm; omega,own_range h⟩
def HopsO (w:World) (base:Nat) (u:Value) (L:List Hp):Prop:=w.ownsRow base 100 3 u L.length (flatH L)
theorem IntsR.form {w:World} {b:Nat} {v:Value} {l:List Int} (h:IntsR w b v l):∃ a cap g,v=.slice a l.length cap∧(0 < l.length→a=some ⟨g,0,none⟩∧Nums w g l∧l.length≤cap∧b≤g):=by
 rcases h with ⟨rfl,rfl⟩ | ⟨g,cap,h1,h2,h3,h4⟩
 ·exact ⟨none,0,0,rfl,fun h=>by simp at h⟩
 ·exact ⟨_,cap,g,h1,fun _=>⟨rfl,h2,h3,h4⟩⟩
end Go.Proofs.Ytamnmjckhicapaa
namespace Go.Proofs.Ytamnmjckhicapaa
open Go.RowKit Go.BigFrame Go.WideShapes Go.ChangeShapes Go.Deep
set_option linter.unusedVariables false
set_option linter.unusedSimpArgs false
set_option maxRecDepth 100000
set_option maxRecDepth 100000 in
set_option maxHeartbeats 4000000 in
theorem hops_any (t0 t1 t2 t3 hold room age:Int) (nv sv xv:Value) (N:List Nd) (S:List (List Pl)) (w:World) (hn:NodesAt w nv N) (hN:1≤N.length) (hs:SegsAt w xv S) (hS:S.length≤20∧∀ seg ∈ S,seg.length≤60) (hok:∀ seg ∈ S,∀ p ∈ seg,PlOk N p) (hco:CostOk N) :
    Calls Try.prog 19 #[(.agg #[.int .i64 t0,.int .i64 t1,.int .i64 t2,.int .i64 t3,.int .i64 hold,.int .i64 room,.int .i64 age,nv,sv]),xv] w fun e w'=>∃ v',e=.returned v'∧HopsAt w' v' (hopsF N S)∧Ext w w':=by
 obtain ⟨pv,⟨na,ncap,rfl,hnm,hnf⟩,hpt⟩:=hn
 obtain ⟨sg,⟨xa,xcap,rfl,hxm,hxf⟩,hpl⟩:=hs
 obtain ⟨i2,hi2,hz2,hs2,hb2⟩:=info_parts info_hop
 have I2:=Lib.hid (And.intro hi2 (And.intro hz2 (And.intro hs2 hb2)))
 obtain ⟨nn,hnn⟩:∃ nn,N.length=nn:=⟨_,rfl⟩
 obtain ⟨ns,hns⟩:∃ ns,S.length=ns:=⟨_,rfl⟩
 obtain ⟨nb,no,rfl,hnb,hnc,hnc2,hn4⟩:=hnf (by omega)
 rw [hnn] at hN hnm hnc hn4 hpt ⊢
 rw [hns] at hxm hxf hpl hS ⊢
 have HN4:=Lib.hid hn4
 have HPT:=Lib.hid hpt
 have HXF:=Lib.hid hxf
 have HPL:=Lib.hid hpl
 have HNN:=Lib.hid hnn
 have HNS:=Lib.hid hns
 have HSM:=Lib.hid hS.2
 have HOK:=Lib.hid hok
 have HCO:=Lib.hid hco
 have hS20:=hS.1
 clear hi2 hz2 hs2 hb2 hnf hn4 hpt hxf hpl hnn hns hS hok hco
 go_enter Try.func19,Try.ntmps19
 go_wp2_with (first
  | fail
  | ((with_reducible refine at_box 47 ?_); refine bx_row rfl 47 _ rfl #[.int .i64 t0,.int .i64 t1,.int .i64 t2,.int .i64 t3,.int .i64 hold,.int .i64 room,.int .i64 age,.slice (some ⟨nb,no,none⟩) nn ncap,sv] rfl ?_
     intro X wb hX hsz hx1
     have HX:=Lib.hid (show BoxAt wb X #[.int .i64 t0,.int .i64 t1,.int .i64 t2,.int .i64 t3,.int .i64 hold,.int .i64 room,.int .i64 age,.slice (some ⟨nb,no,none⟩) nn ncap,sv] 47 from hX)
     have HE:=Lib.hid hx1
     obtain ⟨B0,hB0⟩:∃ B0,wb.heap.size=B0:=⟨_,rfl⟩
     have HB0:=Lib.hid hB0
     clear hX hsz hx1 hB0))
 go_loopw [5,14] (fun s t wr=>∃ (k:Nat) (u:Value) (wo:World),wo=wr∧u=s∧t=.int .i64 k∧k≤ns∧HopsO wo B0 u (hopsF N (S.take k))∧Ext wb wo) (fun _ t _=>ns - (intOf t).toNat)
 case atStart=>exact ⟨0,_,_,rfl,rfl,rfl,by omega,⟨rfl,.inl ⟨rfl,rfl⟩⟩,Ext.refl _⟩
 case round =>
  obtain ⟨k,u,wo,rfl,rfl,rfl,hk,hown,hx⟩:=hrel
  rename World=>wr
  have HO1:=Lib.hid hown
  have HX1:=Lib.hid hx
  clear hown hx
  by_cases hlt:k < ns
  ·have dlt:decide ((k:Int) < (ns:Int))=true:=by simp; omega
   obtain ⟨xb,xo,rfl,hxb,hx2,hx3,hx4⟩:=HXF.out (by omega)
   obtain ⟨seg,hseg⟩:∃ seg,S.getD k []=seg:=⟨_,rfl⟩
   have hkl:k < S.length:=by rw [HNS.out]; exact hlt
   have hmem:seg ∈ S:=by
    rw [← hseg,List.getD_eq_getElem?_getD,List.getElem?_eq_getElem hkl]
    exact List.getElem_mem hkl
   have hplk:=HPL.out k hlt
   rw [hseg] at hplk
   have HPW:=Lib.hid hplk
   have HPK:=Lib.hid (RowAt.ext hplk (HE.out.trans HX1.out):PlAt wr (sg k) seg)
   have ck:wr.cell? ⟨xb,xo+k,none⟩=some (sg k):=by
    have:=hx4 k hlt
    rw [Nat.mul_one] at this
    exact ((HE.out.trans HX1.out).cell hxb).trans (range_one this (j:=0) rfl)
   have hsm:seg.length≤60:=HSM.out seg hmem
   have HTK:=Lib.hid (show hopsF N (S.take (k+1))=hopsF N (S.take k) ++ h2 N seg (brF seg) from by rw [take_snoc S [] hkl,hseg,hopsF_snoc])
   have HPO:=Lib.hid (HOK.out seg hmem)
   have hpl1:(hopsF N (S.take k)).length≤72000:=by
    have h1:=hopsF_len N (S.take k) 60 (fun sg' h=>HSM.out sg' (List.mem_of_mem_take h))
    have h2:(S.take k).length≤20:=by rw [List.length_take,HNS.out]; omega
    omega
   have hup:IntKind.i64.wrap ((k:Int)+1)=((k+1:Nat):Int):=by rw [IntKind.wrap_i64]; omega
   obtain ⟨P1,hP1⟩:∃ P1,hopsF N (S.take k)=P1:=⟨_,rfl⟩
   rw [hP1] at HTK HO1 hpl1
   clear hx4 hplk hseg hmem hkl hP1
   go_wp2_with fail
   refine (bridges_any wr (sg k) seg HPK.out hsm).mono ?_
   rintro e w2 ⟨v2,rfl,hir,hx2⟩
   have hfl:=brF_len seg
   obtain ⟨fs,hfs⟩:∃ fs,brF seg=fs:=⟨_,rfl⟩
   rw [hfs] at hir hfl HTK
   obtain ⟨fa,fcap,gA,rfl,hff⟩:=hir.form
   have HFF:=Lib.hid hff
   have HNG0:=Lib.hid (show 0 < fs.length→Nums w2 gA fs∧u.ownBlock ≠ some gA from fun h0=>⟨(hff h0).2.1,fun e=>by have h1:=(own_lt2 HO1.out e).2; have h2:=(hff h0).2.2.2; omega⟩)
   have HX2:=Lib.hid (HX1.out.trans hx2)
   have HO2:=Lib.hid (show HopsO w2 B0 u P1 from ownR_ext HO1.out hx2)
   obtain ⟨nf,hnf⟩:∃ nf,fs.length=nf:=⟨_,rfl⟩
   rw [hnf] at HFF HNG0 hfl ⊢
   have HNF:=Lib.hid hnf
   obtain ⟨qa,qcap,hqe,hqm,hqf⟩:=HPW.out
   have HQF:=Lib.hid (show 0 < seg.length→∃ b off,qa=some ⟨b,off,none⟩∧b < w.heap.size∧seg.length≤qcap∧qcap≤9223372036854775807∧∀ i,i < seg.length→w.rangeAt b (off+i*2) (plL (seg.getD i (0,0))) from hqf)
   obtain ⟨ls,hls⟩:∃ ls,seg.length=ls:=⟨_,rfl⟩
   rw [hls] at hqe hsm HQF hfl
   rw [hqe]
   have HLS:=Lib.hid hls
   have HSK:=Lib.hid hqe
   clear hir hff hx2 hnf hfs hqf hqe hls HPK
   go_wp2_with fail
   go_loopw [5,21] (fun s t wr=>∃ (k2:Nat) (u:Value) (wo:World),wo=wr∧u=s∧t=.int .i64 k2∧k2≤nf∧HopsO wo B0 u (P1 ++ h2 N seg (fs.take k2))∧Ext wb wo∧(0 < nf→Nums wo gA fs∧u.ownBlock ≠ some gA)) (fun _ t _=>nf - (intOf t).toNat)
   case atStart=>exact ⟨0,_,_,rfl,rfl,rfl,by omega,by simpa [h2] using HO2.out,HX2.out,HNG0.out⟩
   case round =>
    clear HO2 HNG0
    obtain ⟨k2,u,wo,rfl,rfl,rfl,hk2,hown,hx,hng⟩:=hrel
    have HNG1:=Lib.hid hng
    clear hng
    rename World=>wr2
    have HO2:=Lib.hid hown
    have HX3a:=Lib.hid hx
    clear hown hx
    by_cases hlt2:k2 < nf
    ·have dlt2:decide ((k2:Int) < (nf:Int))=true:=by simp; omega
     obtain ⟨rfl,-,hfc,-⟩:=HFF.out (by omega)
     obtain ⟨hnu,-⟩:=HNG1.out (by omega)
     obtain ⟨f,hf⟩:∃ f,at0 fs k2=f:=⟨_,rfl⟩
     have cf:wr2.cell? ⟨gA,k2,none⟩=some (.int .i64 f):=by rw [← hf]; exact hnu.cell (by rw [HNF.out]; exact hlt2)
     have HT2:=Lib.hid (show h2 N seg (fs.take (k2+1))=h2 N seg (fs.take k2) ++ h3 N f seg from by
      rw [take_snoc fs 0 (by rw [HNF.out]; exact hlt2)]
      have:fs.getD k2 0=f:=hf
      rw [this,h2_snoc])
     have hl2:(h2 N seg (fs.take k2)).length≤3600:=by
      have h1:=h2_len N seg (fs.take k2) 60 (by rw [HLS.out]; exact hsm)
      have h3:(fs.take k2).length≤60:=by rw [List.length_take,HNF.out]; omega
      omega
     have hup2:IntKind.i64.wrap ((k2:Int)+1)=((k2+1:Nat):Int):=by rw [IntKind.wrap_i64]; omega
     obtain ⟨P2,hP2⟩:∃ P2,P1 ++ h2 N seg (fs.take k2)=P2:=⟨_,rfl⟩
     have hpl2:P2.length≤76000:=by rw [← hP2,List.length_append]; omega
     have HP2:=Lib.hid hP2
     rw [hP2] at HO2
     clear hnu hf hP2
     go_wp2_with fail
     go_loopw [5,27] (fun s t wr=>∃ (k3:Nat) (u:Value) (wo:World),wo=wr∧u=s∧t=.int .i64 k3∧k3≤ls∧HopsO wo B0 u (P2 ++ h3 N f (seg.take k3))∧Ext wb wo∧(0 < nf→Nums wo gA fs∧u.ownBlock ≠ some gA)) (fun _ t _=>ls - (intOf t).toNat)
     case atStart=>exact ⟨0,_,_,rfl,rfl,rfl,by omega,by simpa [h3] using HO2.out,HX3a.out,HNG1.out⟩
     case round =>
      clear HO2 HX3a
      clear HNG1
      obtain ⟨k3,u,wo,rfl,rfl,rfl,hk3,hown,hx,hng⟩:=hrel
      have HNG:=Lib.hid hng
      clear hng
      rename World=>wl
      have HO3:=Lib.hid hown
      have HXB:=Lib.hid hx
      clear hown hx
      by_cases hlt3:k3 < ls
      ·have dlt3:decide ((k3:Int) < (ls:Int))=true:=by simp; omega
       obtain ⟨qb,qo,rfl,hqb,hq2,hq3,hq4⟩:=HQF.out (by omega)
       obtain ⟨p,hp⟩:∃ p,seg.getD k3 (0,0)=p:=⟨_,rfl⟩
       have RS:=Lib.hid (show wl.rangeAt qb (qo+k3*2) [.int .i64 p.1,.int .i64 p.2] from by
        have h4:=rangeR_ext (hq4 k3 hlt3) (HE.out.trans HXB.out) hqb
        rw [hp] at h4
        exact h4)
       have hk3l:k3 < seg.length:=by rw [HLS.out]; exact hlt3
       have HPOK:=Lib.hid (HPO.out p (by
        rw [← hp,List.getD_eq_getElem?_getD,List.getElem?_eq_getElem hk3l]
        exact List.getElem_mem hk3l))
       have HT3:=Lib.hid (show h3 N f (seg.take (k3+1))=h3 N f (seg.take k3) ++ if p.1 == f then [] else [⟨f,p.1,costA N p⟩] from by
        rw [take_snoc seg (0,0) hk3l,hp,h3_snoc])
       have hl3:(h3 N f (seg.take k3)).length≤60:=by
        have:=h3_len N f (seg.take k3)
        rw [List.length_take] at this
        omega
       have hup3:IntKind.i64.wrap ((k3:Int)+1)=((k3+1:Nat):Int):=by rw [IntKind.wrap_i64]; omega
       obtain ⟨L3,hL3⟩:∃ L3,P2 ++ h3 N f (seg.take k3)=L3:=⟨_,rfl⟩
       have hpl3:L3.length≤77000:=by rw [← hL3,List.length_append]; omega
       have HL3:=Lib.hid hL3
       rw [hL3] at HO3
       clear hq4 hp hk3l hL3
       by_cases hpf:p.1=f
       ·have dpf:(p.1 == f)=true:=by simpa using hpf
        have HPF:=Lib.hid hpf
        clear hpf
        go_wp2_with (first
       | fail
       | ((with_reducible refine at_load 58 ?_); refine wpList_load_mid rfl 58 _ rfl qb (qo+k3*2) rfl [.int .i64 p.1,.int .i64 p.2] _ RS.out Try.underlying58 rfl size_pl ?_)
       | ((with_reducible refine at_alloc 58 ?_); refine al_zero rfl 58 rfl PZ2 zero_pl ?_
          intro G w4 hq4 hsz4 hx4)
       | ((with_reducible refine at_store 58 ?_); refine st_at rfl rfl 58 _ _ rfl G 0 _ #[.int .i64 p.1,.int .i64 p.2] PZ2 #[.int .i64 p.1,.int .i64 p.2] 58 rfl rfl rfl hq4 (by exact (by decide:0+2≤2)) (by kernel_rfl) rfl rfl ?_
          intro w9 hq5 hm5
          have E5:Ext wl w9:=hx4.mutE hm5 (fun n hn h=>by have h2:n=G:=h; omega)
          have cG0:w9.cell? ⟨G,0,none⟩=some (.int .i64 p.1):=by rw [cell_row hq5]; rfl
          have cG1:w9.cell? ⟨G,1,none⟩=some (.int .i64 p.2):=by rw [cell_row hq5]; rfl
          have hGl:G < w9.heap.size:=heap_lt hq5
          have HX9:=Lib.hid (HXB.out.trans E5)
          have HGR:=Lib.hid hq5
          have HGS:=Lib.hid (show wl.heap.size≤G by omega)
          have HOW:=Lib.hid (show wl.ownsRow B0 100 3 u L3.length (flatH L3) from HO3.out)
          have HO:=Lib.hid (show w9.ownsRow B0 100 3 u L3.length (flatH L3) from ownR_ext HO3.out E5)
          have HE59:=Lib.hid E5
          clear hq4 hsz4 hx4 hq5 hm5 E5 w4))
        go_roundw
        case rel=>exact ⟨k3+1,u,_,rfl,rfl,by go_num,by omega,by rw [HT3.out,dpf,if_pos rfl,List.append_nil,HL3.out]; exact HO.out,HX9.out,fun h=>⟨(HNG.out h).1.ext HE59.out,(HNG.out h).2⟩⟩
        case measure=>simp [intOf] <;> omega
       ·have dpf:(p.1 == f)=false:=by simpa using hpf
        obtain ⟨pn,hpn⟩:∃ pn:Nat,p.1=pn:=⟨p.1.toNat,by have:=HPOK.out.1; omega⟩
        obtain ⟨qn,hqn⟩:∃ qn:Nat,p.2=qn:=⟨p.2.toNat,by have:=HPOK.out.2.2.1; omega⟩
        have hpk:=HPOK.out
        have hpl0:pn < nn:=by have:=hpk.2.1; rw [HNN.out] at this; omega
        have hgt:p.1.toNat=pn:=by omega
        have hgq:p.2.toNat=qn:=by omega
        have hql0:qn < (N.getD pn default).ports.length:=by have:=hpk.2.2.2; rw [hgt] at this; omega
        obtain ⟨pa,pcap,hpe,hpm,hpfq⟩:=HPT.out pn hpl0
        obtain ⟨pb,po,hpa,hpb,hpc,hpc2,hp4⟩:=hpfq (by omega)
        subst hpa
        obtain ⟨pl,hpl⟩:∃ pl,(N.getD pn default).ports.length=pl:=⟨_,rfl⟩
        rw [hpl] at hpe hpm hpc hql0 hp4
        obtain ⟨cst,hcst⟩:∃ cst,costA N p=cst:=⟨_,rfl⟩
        have hcp:((N.getD pn default).ports.getD qn default).cost=cst:=by rw [← hcst]; unfold costA; rw [hgt,hgq]
        have hn5:=HN4.out pn hpl0
        have hp5:=hp4 qn hql0
        have HFIX:=Lib.hid (show ∀ W,Ext w W→W.cell? ⟨nb,no+pn*3+2,none⟩=some (.slice (some ⟨pb,po,none⟩) pl pcap)∧W.cell? ⟨pb,po+qn*5+1,none⟩=some (.int .u32 cst)∧nb < W.heap.size∧pb < W.heap.size from fun W hW =>
         ⟨(hW.cell hnb).trans (range_one hn5 (j:=2) (by rw [← hpe]; rfl)),(hW.cell hpb).trans (range_one hp5 (j:=1) (by rw [← hcp]; rfl)),Nat.lt_of_lt_of_le hnb hW.size,Nat.lt_of_lt_of_le hpb hW.size⟩)
        have HC3:=Lib.hid (show P2 ++ h3 N f (seg.take (k3+1))=L3 ++ [(⟨f,pn,cst⟩:Hp)] from by
         rw [HT3.out,dpf,if_neg (by decide),← List.append_assoc,HL3.out,hcst,hpn])
        have HPN:=Lib.hid hpn
        have HQN:=Lib.hid hqn
        have HHB:=Lib.hid zero_hop
        clear hpf hpk hgt hgq hpe hpm hpfq hp4 hcst hcp hn5 hp5 hpn hqn hpl hpb hpc hpc2
        go_wp2_with (first
       | fail
       | ((with_reducible refine at_load 58 ?_); refine wpList_load_mid rfl 58 _ rfl qb (qo+k3*2) rfl [.int .i64 p.1,.int .i64 p.2] _ RS.out Try.underlying58 rfl size_pl ?_)
       | ((with_reducible refine at_alloc 58 ?_); refine al_zero rfl 58 rfl PZ2 zero_pl ?_
          intro G w4 hq4 hsz4 hx4)
       | ((with_reducible refine at_store 58 ?_); refine st_at rfl rfl 58 _ _ rfl G 0 _ #[.int .i64 p.1,.int .i64 p.2] PZ2 #[.int .i64 p.1,.int .i64 p.2] 58 rfl rfl rfl hq4 (by exact (by decide:0+2≤2)) (by kernel_rfl) rfl rfl ?_
          intro w9 hq5 hm5
          have E5:Ext wl w9:=hx4.mutE hm5 (fun n hn h=>by have h2:n=G:=h; omega)
          have cG0:w9.cell? ⟨G,0,none⟩=some (.int .i64 p.1):=by rw [cell_row hq5]; rfl
          have cG1:w9.cell? ⟨G,1,none⟩=some (.int .i64 p.2):=by rw [cell_row hq5]; rfl
          have hGl:G < w9.heap.size:=heap_lt hq5
          have HX9:=Lib.hid (HXB.out.trans E5)
          have HGR:=Lib.hid hq5
          have HGS:=Lib.hid (show wl.heap.size≤G by omega)
          have HOW:=Lib.hid (show wl.ownsRow B0 100 3 u L3.length (flatH L3) from HO3.out)
          have HO:=Lib.hid (show w9.ownsRow B0 100 3 u L3.length (flatH L3) from ownR_ext HO3.out E5)
          have HE59:=Lib.hid E5
          clear hq4 hsz4 hx4 hq5 hm5 E5 w4))
        have cG0:w9.cell? ⟨G,0,none⟩=some (.int .i64 (pn:Int)):=by rw [← HPN.out]; exact cG0
        have cG1:w9.cell? ⟨G,1,none⟩=some (.int .i64 (qn:Int)):=by rw [← HQN.out]; exact cG1
        have HG9:=Lib.hid (show w9.heap[G]?=some (.cells #[.int .i64 (pn:Int),.int .i64 (qn:Int)] 58 (0,0)) from by rw [← HPN.out,← HQN.out]; exact HGR.out)
        refine beginL (S:=fun W'=>Ext wb W'∧W'.heap[G]?=some (.cells #[.int .i64 (pn:Int),.int .i64 (qn:Int)] 58 (0,0))) (by kernel_rfl) ?_
        intro wd hqx
        have hq0:Ext wb wd∧wd.heap[G]?=some (.cells #[.int .i64 (pn:Int),.int .i64 (qn:Int)] 58 (0,0)):=⟨HX9.out.trans hqx,(hqx.block G (heap_lt HG9.out)).trans HG9.out⟩
        refine tLp 0 (u) rfl hq0 ?_
        simp only [ps]
        refine tLp 1 ((.int .i64 f)) rfl hq0 ?_
        simp only [ps]
        refine tLp 2 ((.pointer (some ⟨G,0,none⟩))) rfl hq0 ?_
        simp only [ps]
        refine tL 3 (_) rfl (yieldsIf_cell rfl 3 _ rfl ⟨G,0,none⟩ rfl (.int .i64 (pn:Int)) _ (fun W' hW'=>(show W'.cell? ⟨G,0,none⟩=_ by rw [cell_row hW'.2]; rfl)) Try.underlying3 rfl) hq0 ?_
        simp only [ps]
        refine tLp 4 ((.pointer (some ⟨X,7,none⟩))) rfl hq0 ?_
        simp only [ps]
        refine tL 5 (_) rfl (yieldsIf_cell rfl 44 _ rfl ⟨X,7,none⟩ rfl (.slice (some ⟨nb,no,none⟩) nn ncap) _ (fun W' hW'=>(HX.out.ext hW'.1).cell 7 rfl) Try.underlying44 rfl) hq0 ?_
        simp only [ps]
        refine tLp 6 ((.pointer (some ⟨G,0,none⟩))) rfl hq0 ?_
        simp only [ps]
        refine tL 7 (_) rfl (yieldsIf_cell rfl 3 _ rfl ⟨G,0,none⟩ rfl (.int .i64 (pn:Int)) _ (fun W' hW'=>(show W'.cell? ⟨G,0,none⟩=_ by rw [cell_row hW'.2]; rfl)) Try.underlying3 rfl) hq0 ?_
        simp only [ps]
        refine tL 8 ((.pointer (some ⟨nb,no+pn*3,none⟩))) rfl (Or.inl ⟨rfl,fun W' _=>by go_simp <;> (intro h; omega)⟩) hq0 ?_
        simp only [ps]
        refine tLp 9 ((.pointer (some ⟨nb,no+pn*3+2,none⟩))) rfl hq0 ?_
        simp only [ps]
        refine tL 10 (_) rfl (yieldsIf_cell rfl 80 _ rfl ⟨nb,no+pn*3+2,none⟩ rfl (.slice (some ⟨pb,po,none⟩) pl pcap) _ (fun W' hW'=>(HFIX.out W' (HE.out.trans hW'.1)).1) Try.underlying80 rfl) hq0 ?_
        simp only [ps]
        refine tLp 11 ((.pointer (some ⟨G,1,none⟩))) rfl hq0 ?_
        simp only [ps]
        refine tL 12 (_) rfl (yieldsIf_cell rfl 3 _ rfl ⟨G,1,none⟩ rfl (.int .i64 (qn:Int)) _ (fun W' hW'=>(show W'.cell? ⟨G,1,none⟩=_ by rw [cell_row hW'.2]; rfl)) Try.underlying3 rfl) hq0 ?_
        simp only [ps]
        refine tL 13 ((.pointer (some ⟨pb,po+qn*5,none⟩))) rfl (Or.inl ⟨rfl,fun W' _=>by go_simp <;> (intro h; omega)⟩) hq0 ?_
        simp only [ps]
        refine tLp 14 ((.pointer (some ⟨pb,po+qn*5+1,none⟩))) rfl hq0 ?_
        simp only [ps]
        refine tL 15 (_) rfl (yieldsIf_cell rfl 54 _ rfl ⟨pb,po+qn*5+1,none⟩ rfl (.int .u32 cst) _ (fun W' hW'=>(HFIX.out W' (HE.out.trans hW'.1)).2.1) Try.underlying54 rfl) hq0 ?_
        simp only [ps]
        refine tL 16 ((.agg #[.int .i64 f,.int .i64 (pn:Int),.int .u32 cst])) rfl (yieldsIf_build rfl 100 _ rfl [(0,.int .i64 f),(1,.int .i64 (pn:Int)),(2,.int .u32 cst)] rfl #[.int .i64 f,.int .i64 (pn:Int),.int .u32 cst] (hop_bl _ _ _)) hq0 ?_
        simp only [ps]
        refine runL (i:=17) rfl rfl (by kernel_rfl) (fun K hK=>?_)
        refine wp_buildSlice 72 100 1 _ rfl #[.int .i64 f,.int .i64 (pn:Int),.int .u32 cst] i2 (.agg HZ) Try.underlying72 I2.out.1 I2.out.2.1 (by rw [I2.out.2.2.1]; decide) (by rw [I2.out.2.2.1]; decide) (by rw [I2.out.2.2.1,Array.toList_map]; exact hop_b1 _ _ _) ?_
        have hy:Ext wd (wd.alloc (.cells #[.int .i64 f,.int .i64 (pn:Int),.int .u32 cst] 100)):=(Ext.refl _).alloc _
        have hnw:=heap_alloc_new wd (.cells #[.int .i64 f,.int .i64 (pn:Int),.int .u32 cst] 100)
        obtain ⟨wn,hwa⟩:∃ W,wd.alloc (.cells #[.int .i64 f,.int .i64 (pn:Int),.int .u32 cst] 100)=W:=⟨_,rfl⟩
        obtain ⟨bn,hnb⟩:∃ m,wd.heap.size=m:=⟨_,rfl⟩
        rw [hwa] at hnw hy ⊢
        rw [hnb] at hnw ⊢
        clear hwa hnb
        have hq1:Ext wb wn∧wn.heap[G]?=some (.cells #[.int .i64 (pn:Int),.int .i64 (qn:Int)] 58 (0,0)):=⟨hq0.1.trans hy,(hy.block G (heap_lt hq0.2)).trans hq0.2⟩
        have hO2:=ownR_ext HO.out (hqx.trans hy)
        have hbw:B0≤wn.heap.size:=by rw [← HB0.out]; exact hq1.1.size
        refine hK.out _ _ hq1 (fun _=>?_)
        try simp only [ps]
        clear hK K
        refine runL (i:=18) rfl rfl (by kernel_rfl) (fun K hK=>?_)
        refine oper_append_own_at _ _ 72 rfl B0 100 i2 (.agg HZ) 3 24 Try.underlying72 I2.out.1 I2.out.2.1 I2.out.2.2.1 I2.out.2.2.2 rfl (by decide) u L3.length (flatH L3) rfl hO2 ⟨bn,0,none⟩ 1 1 (⟨f,pn,cst⟩:Hp).L rfl rfl ?hnews (fun u hu=>by
            have hu2:u=.int .i64 f∨u=.int .i64 pn∨u=.int .u32 cst:=by simpa [Hp.L] using hu
            rcases hu2 with rfl | rfl | rfl <;> rfl) (by unfold maxLen; omega) (by omega) hbw ?hfin
        case hnews=>exact fun j u hu=>World.news_of_block hnw j u (by simpa [Hp.L] using hu)
        case hfin =>
        intro v6 w6 ho6 hg6 hloc
        have HNG6:=Lib.hid (show 0 < nf→Nums w6 gA fs∧v6.ownBlock ≠ some gA from fun h=>by
         obtain ⟨h1,h2⟩:=HNG.out h
         have h3:=h1.ext (HE59.out.trans (hqx.trans hy))
         have h4:=h3.lt
         obtain ⟨cur,e1,e2⟩:=h3
         refine ⟨⟨cur,(hg6.block gA h4 (fun e=>h2 e.symm)).trans e1,e2⟩,?_⟩
         rcases hloc with hl | hl
         ·rw [hl]; exact h2
         ·rw [hl]; intro e; cases e; omega)
        have hx6:Ext wb w6:=ext_grown hq1.1 hO2 (by rw [HB0.out]; exact Nat.le_refl _) hg6
        have hgG:w6.heap[G]?=some (.cells #[.int .i64 (pn:Int),.int .i64 (qn:Int)] 58 (0,0)):=(hg6.block G (heap_lt hq1.2) (fun e=>by have h1:=(own_lt2 HOW.out e.symm).2; have h2:=HGS.out; omega)).trans hq1.2
        have hq6:Ext wb w6∧w6.heap[G]?=some (.cells #[.int .i64 (pn:Int),.int .i64 (qn:Int)] 58 (0,0)):=⟨hx6,hgG⟩
        have HX6:=Lib.hid hx6
        have HO6:=Lib.hid (show HopsO w6 B0 v6 (L3 ++ [(⟨f,pn,cst⟩:Hp)]) from by
         unfold HopsO
         rw [List.length_append,flatH_snoc]
         exact ho6)
        refine hK.out _ _ hq6 (fun _=>?_)
        try simp only [ps]
        clear hK K
        refine tLp 19 (v6) rfl hq6 ?_
        simp only [ps]
        refine wpAnyH_done (by kernel_rfl) ?_ _
        have HOF:=Lib.hid (show HopsO w6 B0 v6 (P2 ++ h3 N f (seg.take (k3+1))) from by rw [HC3.out]; exact HO6.out)
        clear hq6 hq0 hqx hq1 hy hO2 hbw hnw hg6 ho6 hx6 hgG hloc
        go_wp2_with fail
        go_roundw
        case rel=>exact ⟨k3+1,v6,_,rfl,rfl,by go_num,by omega,HOF.out,HX6.out,HNG6.out⟩
        case measure=>simp [intOf] <;> omega
      ·have dlt3:decide ((k3:Int) < (ls:Int))=false:=by simp; omega
       have HOF:=Lib.hid (show HopsO wl B0 u (P1 ++ h2 N seg (fs.take (k2+1))) from by
        have:=HO3.out
        rw [List.take_of_length_le (by rw [HLS.out]; omega)] at this
        rw [HT2.out,← List.append_assoc,HP2.out]
        exact this)
       go_wp2_with fail
       go_roundw
       case rel=>exact ⟨k2+1,u,_,rfl,rfl,by go_num,by omega,HOF.out,HXB.out,HNG.out⟩
       case measure=>simp [intOf] <;> omega
    ·have dlt2:decide ((k2:Int) < (nf:Int))=false:=by simp; omega
     have HOF:=Lib.hid (show HopsO wr2 B0 u (hopsF N (S.take (k+1))) from by
      have:=HO2.out
      rw [List.take_of_length_le (by rw [HNF.out]; omega)] at this
      rw [HTK.out]
      exact this)
     have HXF:=HX3a
     go_wp2_with fail
     go_roundw
     case rel=>exact ⟨k+1,u,_,rfl,rfl,by go_num,by omega,HOF.out,HXF.out⟩
     case measure=>simp [intOf] <;> omega
  ·have dlt:decide ((k:Int) < (ns:Int))=false:=by simp; omega
   have HOF:=Lib.hid (show HopsO wr B0 u (hopsF N S) from by
    have:=HO1.out
    rwa [List.take_of_length_le (by rw [HNS.out]; omega)] at this)
   go_wp2_with fail
   go_ret
   exact ⟨_,rfl,HopsAt.own HOF.out (by have:=hopsF_len N S 60 HSM.out; rw [HNS.out] at this; omega),HE.out.trans HX1.out⟩
end Go.Proofs.Ytamnmjckhicapaa
