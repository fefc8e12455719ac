/- Part 19 of what PlanVersions stands on. No statement is proved here. -/
import Derived.Test.YtamnmjckhicapaaPtFr
namespace Go.Proofs.Ytamnmjckhicapaa
open Go.RowKit Go.BigFrame Go.WideShapes Go.ChangeShapes Go.Deep
set_option linter.unusedVariables false
set_option linter.unusedSimpArgs false
set_option maxRecDepth 100000
def NDZ2:Array Value:=#[.int .u64 0,.bool false,.slice none 0 0]
theorem zero_l2:∀ w,(zeroValue 82).run Try.prog w=.ok (.agg NDZ2) w:=(zero_of_info (P:=Try.prog) (t:=82) (v:=.agg NDZ2) (n:=3) (by kernel_rfl)).1
theorem size_l2:(Try.prog.info? 82).map (·.size)=some 3:=by kernel_rfl
theorem zero_ln:∀ w,(zeroValue 47).run Try.prog w=.ok (.agg NZ) w:=(zero_of_info (P:=Try.prog) (t:=47) (v:=.agg NZ) (n:=9) (by kernel_rfl)).1
theorem zero_st:∀ w,(zeroValue 67).run Try.prog w=.ok (.agg SUZ) w:=(zero_of_info (P:=Try.prog) (t:=67) (v:=.agg SUZ) (n:=5) (by kernel_rfl)).1
theorem size_st:(Try.prog.info? 67).map (·.size)=some 5:=by kernel_rfl
theorem info_bt:(Try.prog.info? 87).map (fun i=>(i.zero,i.size,i.bytes))=some (some (.agg SUZ),5,12):=by kernel_rfl
theorem info_l2:(Try.prog.info? 82).map (fun i=>(i.zero,i.size,i.bytes))=some (some (.agg NDZ2),3,40):=by kernel_rfl
theorem info_lps:(Try.prog.info? 39).map (fun i=>(i.zero,i.size,i.bytes))=some (some (.slice none 0 0),1,24):=by kernel_rfl
theorem bl_bt (a b:Int) (x y z:Bool):Try.prog.built 87 [(0,.int .u16 a),(1,.int .u32 b),(2,.bool x),(3,.bool y),(4,.bool z)]=some #[.int .u16 a,.int .u32 b,.bool x,.bool y,.bool z]:=by kernel_rfl
theorem bl_l2 (a:Int) (b:Bool):Try.prog.built 82 [(0,.int .u64 a),(1,.bool b)]=some #[.int .u64 a,.bool b,.slice none 0 0]:=by kernel_rfl
theorem bl_lp (a b:Int):Try.prog.built 58 [(0,.int .i64 a),(1,.int .i64 b)]=some #[.int .i64 a,.int .i64 b]:=by kernel_rfl
def ncG (N:List Nd) (pv:Nat→Value) (i:Nat):List Value:=(List.range i).flatMap (fun j=>[.int .u64 (N.getD j default).id,.bool (N.getD j default).rst,pv j])
theorem ncG_snoc (N:List Nd) (pv:Nat→Value) (i:Nat):ncG N pv (i+1)=ncG N pv i ++ [.int .u64 (N.getD i default).id,.bool (N.getD i default).rst,pv i]:=by simp [ncG,List.range_succ]
theorem ncG_congr (N:List Nd) {pv qv:Nat→Value}:∀ {i:Nat},(∀ j,j < i→pv j=qv j)→ncG N pv i=ncG N qv i
 | 0,_=>rfl
 | i+1,h=>by rw [ncG_snoc,ncG_snoc,ncG_congr N (fun j hj=>h j (by omega)),h i (by omega)]
theorem ncG_at (N:List Nd) (pv:Nat→Value) (n i j:Nat) (x:Value) (hi:i < n) (hx:[Value.int .u64 (N.getD i default).id,.bool (N.getD i default).rst,pv i][j]?=some x):(ncG N pv n)[i*3+j]?=some x:=by
 refine flat_at (fun j=>[Value.int .u64 (N.getD j default).id,.bool (N.getD j default).rst,pv j]) 3 (fun _=>rfl) 0 (List.range n) i j x (by simpa using hi) ?_
 rw [show (List.range n).getD i 0=i from by simp [List.getD_eq_getElem?_getD,hi]]
 exact hx
structure FamN (NT BT:TypeId) (F:Nat→OS) (N:List Nd) (i:Nat):Prop where
 nd:F 0=⟨(F 0).v,NT,3,i,ncG N (fun j=>(F (1+j)).v) i⟩
 pt:∀ j,j < i→F (1+j)=⟨(F (1+j)).v,BT,5,(N.getD j default).ports.length,flatT (N.getD j default).ports⟩
theorem FamN.port {NT BT:TypeId} {F:Nat→OS} {N:List Nd} {i:Nat} {o:OS} (h:FamN NT BT F N i):FamN NT BT (upd F (1+i) o) N i:=by
 refine ⟨?_,fun j hj=>?_⟩
 ·rw [upd_other (by omega)]
  refine h.nd.trans ?_
  congr 1
  exact ncG_congr N (fun j hj=>by rw [upd_other (by omega)])
 ·rw [upd_other (by omega)]
  exact h.pt j hj
theorem FamN.node {NT BT:TypeId} {F:Nat→OS} {N:List Nd} {i:Nat} {v:Value} (h:FamN NT BT F N i) (hp:F (1+i)=⟨(F (1+i)).v,BT,5,(N.getD i default).ports.length,flatT (N.getD i default).ports⟩) :
    FamN NT BT (upd F 0 ⟨v,NT,3,i+1,ncG N (fun j=>(F (1+j)).v) i ++ [.int .u64 (N.getD i default).id,.bool (N.getD i default).rst,(F (1+i)).v]⟩) N (i+1):=by
 refine ⟨?_,fun j hj=>?_⟩
 ·rw [upd_same,ncG_snoc]
  congr 2
  ·exact ncG_congr N (fun j hj=>by rw [upd_other (by omega)])
  ·rw [upd_other (by omega)]
 ·rw [upd_other (by omega)]
  by_cases e:j=i
  ·subst e; exact hp
  ·exact h.pt j (by omega)
theorem famN_at {w:World} {B:Nat} {F:Nat→OS} {N:List Nd} {NT BT:TypeId} (hfm:Fam w B (1+N.length) F) (hft:FamN NT BT F N N.length) (hn:N.length≤5) (hl:∀ j,j < N.length→(N.getD j default).ports.length≤60):NodesAt w (F 0).v N:=by
 refine ⟨fun j=>(F (1+j)).v,?_,fun i hi=>?_⟩
 ·have h0:=hfm.1 0 (by omega)
  rw [hft.nd] at h0
  exact RowAt.ownG h0 (by show N.length≤1000; omega) (fun i hi j x hx=>ncG_at N _ _ i j x hi hx)
 ·have h0:=hfm.1 (1+i) (by omega)
  rw [hft.pt i hi] at h0
  exact PtsAt.own h0 (by have:=hl i hi; show (N.getD i default).ports.length≤1000; omega)
structure FamS (ST PT:TypeId) (F:Nat→OS) (S:List (List Pl)) (s:Nat):Prop where
 sg:F 0=⟨(F 0).v,ST,1,s,(List.range s).map (fun j=>(F (1+j)).v)⟩
 pl:∀ j,j < s→F (1+j)=⟨(F (1+j)).v,PT,2,(S.getD j []).length,flatP (S.getD j [])⟩
theorem FamS.seg {ST PT:TypeId} {F:Nat→OS} {S:List (List Pl)} {s:Nat} {o:OS} (h:FamS ST PT F S s):FamS ST PT (upd F (1+s) o) S s:=by
 refine ⟨?_,fun j hj=>?_⟩
 ·rw [upd_other (by omega)]
  refine h.sg.trans ?_
  congr 1
  exact List.map_congr_left (fun j hj=>by rw [upd_other (by have:=List.mem_range.1 hj; omega)])
 ·rw [upd_other (by omega)]
  exact h.pl j hj
theorem FamS.node {ST PT:TypeId} {F:Nat→OS} {S:List (List Pl)} {s:Nat} {v:Value} (h:FamS ST PT F S s) (hp:F (1+s)=⟨(F (1+s)).v,PT,2,(S.getD s []).length,flatP (S.getD s [])⟩) :
    FamS ST PT (upd F 0 ⟨v,ST,1,s+1,(List.range s).map (fun j=>(F (1+j)).v) ++ [(F (1+s)).v]⟩) S (s+1):=by
 refine ⟨?_,fun j hj=>?_⟩
 ·rw [upd_same,List.range_succ,List.map_append]
  congr 2
  ·exact List.map_congr_left (fun j hj=>by rw [upd_other (by omega)])
  ·simp only [List.map_cons,List.map_nil]
   rw [upd_other (by omega)]
 ·rw [upd_other (by omega)]
  by_cases e:j=s
  ·subst e; exact hp
  ·exact h.pl j (by omega)
theorem famS_at {w:World} {B:Nat} {F:Nat→OS} {S:List (List Pl)} {ST PT:TypeId} (hfm:Fam w B (1+S.length) F) (hft:FamS ST PT F S S.length) (hn:S.length≤20) (hl:∀ j,j < S.length→(S.getD j []).length≤60):SegsAt w (F 0).v S:=by
 refine ⟨fun j=>(F (1+j)).v,?_,fun i hi=>?_⟩
 ·have h0:=hfm.1 0 (by omega)
  rw [hft.sg] at h0
  refine RowAt.own h0 (by show S.length≤1000; omega) (fun i hi=>⟨(F (1+i)).v,?_,rfl⟩)
  show ((List.range S.length).map (fun j=>(F (1+j)).v))[i]?=_
  rw [List.getElem?_map,List.getElem?_range hi]
  rfl
 ·have h0:=hfm.1 (1+i) (by omega)
  rw [hft.pl i hi] at h0
  exact PlAt.ownE h0 (by have:=hl i hi; show (S.getD i []).length≤1000; omega)
set_option maxRecDepth 100000 in
set_option maxHeartbeats 8000000 in
theorem net_any (nv sv:Value) (N:List Nd) (S:List (List Pl)) (w:World) (hN:NodesAt w nv N) (hS:SegsAt w sv S) (hn5:N.length≤5) (hnp:∀ j,j < N.length→(N.getD j default).ports.length≤60) (hs20:S.length≤20) (hs60:∀ j,j < S.length→(S.getD j []).length≤60) :
    Calls Try.prog 13 #[.agg #[.int .i64 0,.int .i64 20,.int .i64 2,.int .i64 15,.int .i64 6,.int .i64 20,.int .i64 300,nv,sv]] w fun e w'=>∃ nv' sv',e=.returned (.agg #[.int .i64 0,.int .i64 20,.int .i64 2,.int .i64 15,.int .i64 6,.int .i64 20,.int .i64 300,nv',sv'])∧nv'.oneCell'=true∧sv'.oneCell'=true∧NodesAt w' nv' N∧SegsAt w' sv' S∧Ext w w':=by
 obtain ⟨pv,⟨na,ncap,rfl,hnm,hnf⟩,hpt⟩:=hN
 obtain ⟨sg,⟨sa,scap,rfl,hsm,hsf⟩,hpl⟩:=hS
 obtain ⟨n,hn⟩:∃ m,N.length=m:=⟨_,rfl⟩
 obtain ⟨m,hm⟩:∃ m,S.length=m:=⟨_,rfl⟩
 rw [hn] at hnm hnf hpt hn5 hnp ⊢
 rw [hm] at hsm hsf hpl hs20 hs60 ⊢
 obtain ⟨i3,hi3,hz3,hs3,hb3⟩:=info_parts info_bt
 have I3:=Lib.hid (And.intro hi3 (And.intro hz3 (And.intro hs3 hb3)))
 obtain ⟨i2,hi2,hz2,hs2,hb2⟩:=info_parts info_pl
 have I2:=Lib.hid (And.intro hi2 (And.intro hz2 (And.intro hs2 hb2)))
 obtain ⟨i6,hi6,hz6,hs6,hb6⟩:=info_parts info_l2
 have I6:=Lib.hid (And.intro hi6 (And.intro hz6 (And.intro hs6 hb6)))
 obtain ⟨i4,hi4,hz4,hs4,hb4⟩:=info_parts info_lps
 have I4:=Lib.hid (And.intro hi4 (And.intro hz4 (And.intro hs4 hb4)))
 have HNF:=Lib.hid hnf
 have HPT:=Lib.hid hpt
 have HSF:=Lib.hid hsf
 have HPL:=Lib.hid hpl
 have HN:=Lib.hid hn
 have HM:=Lib.hid hm
 have HNP:=Lib.hid hnp
 have HS6:=Lib.hid hs60
 clear hi3 hz3 hs3 hb3 hi2 hz2 hs2 hb2 hi6 hz6 hs6 hb6 hi4 hz4 hs4 hb4 hnf hpt hsf hpl hn hm hnp hs60 hnm hsm
 go_enter Try.func13,Try.ntmps13
 go_wp2_with (first
  | fail
  | ((with_reducible refine at_box 32 ?_); refine bx_row rfl 32 _ rfl #[.int .i64 0,.int .i64 20,.int .i64 2,.int .i64 15,.int .i64 6,.int .i64 20,.int .i64 300,.slice na n ncap,.slice sa m scap] rfl ?_
     intro X wa hX hsz hx1
     have HXa:=Lib.hid (show BoxAt wa X #[.int .i64 0,.int .i64 20,.int .i64 2,.int .i64 15,.int .i64 6,.int .i64 20,.int .i64 300,.slice na n ncap,.slice sa m scap] 32 from hX)
     have HEa:=Lib.hid hx1
     clear hX hsz hx1)
  | ((with_reducible refine at_alloc 47 ?_); have h0:=HEa.out; refine al_zero rfl 47 rfl NZ zero_ln ?_
     intro RB w1 hq hsz hx
     have HRB:=Lib.hid (show BoxAt w1 RB NZ 47 from hq)
     have HE1:=Lib.hid (HEa.out.trans hx)
     have HRW:=Lib.hid (show w.heap.size≤RB from by have:=HEa.out.size; omega)
     have HX1:=Lib.hid (HXa.out.ext hx)
     have x0:w1.cell? ⟨X,0,none⟩=some (.int .i64 0):=HX1.out.cell 0 rfl
     have x1:w1.cell? ⟨X,1,none⟩=some (.int .i64 20):=HX1.out.cell 1 rfl
     have x2:w1.cell? ⟨X,2,none⟩=some (.int .i64 2):=HX1.out.cell 2 rfl
     have x3:w1.cell? ⟨X,3,none⟩=some (.int .i64 15):=HX1.out.cell 3 rfl
     have x4:w1.cell? ⟨X,4,none⟩=some (.int .i64 6):=HX1.out.cell 4 rfl
     have x5:w1.cell? ⟨X,5,none⟩=some (.int .i64 20):=HX1.out.cell 5 rfl
     have x6:w1.cell? ⟨X,6,none⟩=some (.int .i64 300):=HX1.out.cell 6 rfl
     clear hq hsz hx h0 HEa HXa)
  | ((with_reducible refine at_alloc 47 ?_); have h0:=HE1.out; refine al_zero rfl 47 rfl NZ zero_ln ?_
     intro OB w3 hq3 hsz3 hx3)
  | ((with_reducible refine at_store 47 ?_); refine st_at rfl rfl 47 _ _ rfl OB 0 _ #[.int .i64 0,.int .i64 20,.int .i64 2,.int .i64 15,.int .i64 6,.int .i64 20,.int .i64 300,.slice none 0 0,.slice none 0 0] NZ #[.int .i64 0,.int .i64 20,.int .i64 2,.int .i64 15,.int .i64 6,.int .i64 20,.int .i64 300,.slice none 0 0,.slice none 0 0] 47 rfl rfl rfl hq3 (by exact (by decide:0+9≤9)) (by kernel_rfl) rfl rfl ?_
     intro w4 hq4 hm4
     have hx14:Ext w1 w4:=hx3.mutE hm4 (fun g hg h=>by have h2:g=OB:=h; omega)
     have HE4:=Lib.hid hx14
     have HOB:=Lib.hid (show BoxAt w4 OB #[.int .i64 0,.int .i64 20,.int .i64 2,.int .i64 15,.int .i64 6,.int .i64 20,.int .i64 300,.slice none 0 0,.slice none 0 0] 47 from hq4)
     have HOW:=Lib.hid (show w1.heap.size≤OB from by omega)
     clear hq3 hsz3 hx3 hq4 hm4 hx14 h0 x0 x1 x2 x3 x4 x5 x6))
 obtain ⟨B,hB⟩:∃ B,w4.heap.size=B:=⟨_,rfl⟩
 have HB:=Lib.hid hB
 have HOBB:=Lib.hid (show OB < B from by rw [← hB]; exact heap_lt HOB.out)
 have HB1:=Lib.hid (show w1.heap.size≤B from by rw [← hB]; exact HE4.out.size)
 clear hB
 go_loopw [4] (fun s wr=>∃ (i:Nat) (F:Nat→OS) (wo:World),wo=wr∧s=.int .i64 i∧i≤n∧BoxAt wo OB #[.int .i64 0,.int .i64 20,.int .i64 2,.int .i64 15,.int .i64 6,.int .i64 20,.int .i64 300,(F 0).v,.slice none 0 0] 47∧Fam wo B (1+i) F∧FamN 82 87 F N i∧Ext w1 wo∧B≤wo.heap.size) (fun s _=>n - (intOf s).toNat)
 case atStart=>exact ⟨0,fun _=>⟨.slice none 0 0,82,3,0,[]⟩,_,rfl,rfl,by omega,HOB.out,⟨fun k hk=>⟨by simp,.inl ⟨rfl,rfl⟩⟩,fun j k hj hk hjk=>by omega⟩,⟨rfl,fun j hj=>by omega⟩,HE4.out,Nat.le_of_eq HB.out.symm⟩
 case round =>
  clear HOB
  obtain ⟨i,F,wo,rfl,rfl,hi,hob,hfm,hft,hx,hbl⟩:=hrel
  rename World=>wl
  have HOB:=Lib.hid hob
  have HFM:=Lib.hid hfm
  have HFT:=Lib.hid hft
  have HXL:=Lib.hid hx
  have HBL:=Lib.hid hbl
  clear hob hfm hft hx hbl
  have c7:wl.cell? ⟨X,7,none⟩=some (.slice na n ncap):=(HX1.out.ext HXL.out).cell 7 rfl
  by_cases hlt:i < n
  ·have dlt:decide ((i:Int) < (n:Int))=true:=by simp; omega
   have hup:IntKind.i64.wrap ((i:Int)+1)=((i+1:Nat):Int):=by rw [IntKind.wrap_i64]; omega
   obtain ⟨nb,no,rfl,hnb,hnc,-,hn4⟩:=HNF.out (by omega)
   have hr:=hn4 i hlt
   obtain ⟨x,hx⟩:∃ x,N.getD i default=x:=⟨_,rfl⟩
   rw [hx] at hr
   have hpts:=HPT.out i hlt
   rw [hx] at hpts
   obtain ⟨pa,pcap,hpe,hpm,hpf⟩:=hpts
   obtain ⟨pn,hpn⟩:∃ m,x.ports.length=m:=⟨_,rfl⟩
   rw [hpn] at hpe hpm hpf
   have hp60:pn≤60:=by have:=HNP.out i hlt; rw [hx,hpn] at this; exact this
   have HRW0:=Lib.hid (show ∀ W',Ext w W'→W'.cell? ⟨nb,no+i*3,none⟩=some (.int .u64 x.id)∧W'.cell? ⟨nb,no+i*3+1,none⟩=some (.bool x.rst)∧W'.cell? ⟨nb,no+i*3+2,none⟩=some (.slice pa pn pcap) from fun W' h=>by
    have h0:=range_one hr (j:=0) rfl
    have h1:=range_one hr (j:=1) rfl
    have h2:=range_one hr (j:=2) rfl
    rw [Nat.add_zero] at h0
    rw [hpe] at h2
    exact ⟨(h.cell hnb).trans h0,(h.cell hnb).trans h1,(h.cell hnb).trans h2⟩)
   have HPF:=Lib.hid (show 0 < pn→∃ b off,pa=some ⟨b,off,none⟩∧b < w.heap.size∧pn≤pcap∧pcap≤9223372036854775807∧∀ i,i < pn→w.rangeAt b (off+i*5) (x.ports.getD i default).L from hpf)
   have HXX:=Lib.hid hx
   have HPN:=Lib.hid hpn
   clear hn4 hr hpe hpm hpf hx hpn hnb hnc
   obtain ⟨xid,hxid⟩:∃ a,x.id=a:=⟨_,rfl⟩
   obtain ⟨xr,hxr⟩:∃ a,x.rst=a:=⟨_,rfl⟩
   rw [hxid,hxr] at HRW0
   have HXI:=Lib.hid hxid
   have HXR:=Lib.hid hxr
   clear hxid hxr
   go_wp2_with fail
   refine beginL (S:=fun W'=>Ext wl W') (by kernel_rfl) ?_
   intro wd hqx
   have hq0:Ext wl wd:=hqx
   refine tLp 0 ((.pointer (some ⟨X,7,none⟩))) rfl hq0 ?_
   simp only [ps]
   refine tL 1 (_) rfl (yieldsIf_cell rfl 29 _ rfl ⟨X,7,none⟩ rfl (.slice (some ⟨nb,no,none⟩) n ncap) _ (fun W' hW'=>(HX1.out.ext (HXL.out.trans hW')).cell 7 rfl) Try.underlying29 rfl) hq0 ?_
   simp only [ps]
   refine tLp 2 ((.int .i64 (i:Int))) rfl hq0 ?_
   simp only [ps]
   refine tL 3 ((.pointer (some ⟨nb,no+i*3,none⟩))) rfl (Or.inl ⟨rfl,fun W' _=>by go_simp <;> (intro h; omega)⟩) hq0 ?_
   simp only [ps]
   refine tLp 4 ((.pointer (some ⟨nb,no+i*3,none⟩))) rfl hq0 ?_
   simp only [ps]
   refine tL 5 (_) rfl (yieldsIf_cell rfl 53 _ rfl ⟨nb,no+i*3,none⟩ rfl (.int .u64 xid) _ (fun W' hW'=>(HRW0.out W' (HE1.out.trans (HXL.out.trans hW'))).1) Try.underlying53 rfl) hq0 ?_
   simp only [ps]
   refine tLp 6 ((.pointer (some ⟨X,7,none⟩))) rfl hq0 ?_
   simp only [ps]
   refine tL 7 (_) rfl (yieldsIf_cell rfl 29 _ rfl ⟨X,7,none⟩ rfl (.slice (some ⟨nb,no,none⟩) n ncap) _ (fun W' hW'=>(HX1.out.ext (HXL.out.trans hW')).cell 7 rfl) Try.underlying29 rfl) hq0 ?_
   simp only [ps]
   refine tLp 8 ((.int .i64 (i:Int))) rfl hq0 ?_
   simp only [ps]
   refine tL 9 ((.pointer (some ⟨nb,no+i*3,none⟩))) rfl (Or.inl ⟨rfl,fun W' _=>by go_simp <;> (intro h; omega)⟩) hq0 ?_
   simp only [ps]
   refine tLp 10 ((.pointer (some ⟨nb,no+i*3+1,none⟩))) rfl hq0 ?_
   simp only [ps]
   refine tL 11 (_) rfl (yieldsIf_cell rfl 4 _ rfl ⟨nb,no+i*3+1,none⟩ rfl (.bool xr) _ (fun W' hW'=>(HRW0.out W' (HE1.out.trans (HXL.out.trans hW'))).2.1) Try.underlying4 rfl) hq0 ?_
   simp only [ps]
   refine tL 12 ((.agg #[.int .u64 xid,.bool xr,.slice none 0 0])) rfl (yieldsIf_build rfl 82 _ rfl [(0,.int .u64 xid),(1,.bool xr)] rfl #[.int .u64 xid,.bool xr,.slice none 0 0] (bl_l2 _ _)) hq0 ?_
   simp only [ps]
   refine runL (i:=13) rfl rfl (by kernel_rfl) (fun K hK=>?_)
   refine wp_al_zero 82 rfl NDZ2 zero_l2 (fun G wv hvb hsz hx=>?_)
   have hq1:Ext wl wv:=hq0.trans hx
   have HGW:=Lib.hid (show wl.heap.size≤G from by have:=hq0.size; omega)
   refine hK.out _ _ hq1 (fun _=>?_)
   try simp only [ps]
   clear hK K hsz hx
   refine runL (i:=14) rfl rfl (by kernel_rfl) (fun K hK=>?_)
   refine wp_st_at rfl 82 _ _ rfl G 0 _ #[.int .u64 xid,.bool xr,.slice none 0 0] NDZ2 #[.int .u64 xid,.bool xr,.slice none 0 0] 82 rfl rfl rfl hvb (by exact (by decide:0+3≤3)) (by kernel_rfl) rfl rfl (fun wg hrow hm=>?_)
   have hxz:Ext wl wg:=hq1.mutE hm (fun j hj h=>by have h2:j=G:=h; have h3:=HGW.out; omega)
   have HG:=Lib.hid (show BoxAt wg G #[.int .u64 xid,.bool xr,.slice none 0 0] 82 from hrow)
   have HXG:=Lib.hid hxz
   refine hK.out _ _ hxz (fun _=>?_)
   try simp only [ps]
   clear hK K hrow hm hxz hq1 hq0 hqx hvb
   refine wpAnyH_done (by kernel_rfl) ?_ _
   clear c7
   go_wp2_with fail
   have HFMg:=Lib.hid ((HFM.out.ext HXG.out).nil 87 5)
   have HFTg:=Lib.hid (show FamN 82 87 (upd F (1+i) ⟨.slice none 0 0,87,5,0,[]⟩) N i from HFT.out.port)
   have HNEg:=Lib.hid (show ∀ j,j < 1+i+1→∀ g,(upd F (1+i) ⟨.slice none 0 0,87,5,0,[]⟩ j).v.ownBlock=some g→g ≠ G from fun j hj g h1 e=>by
    by_cases hji:j=1+i
    ·subst hji; rw [upd_same] at h1; simp [Value.ownBlock] at h1
    ·rw [upd_other hji] at h1
     have h2:=(own_lt2 (HFM.out.1 j (by omega)) h1).2
     have h3:=HGW.out
     omega)
   have HOBg:=Lib.hid (show BoxAt wg OB #[.int .i64 0,.int .i64 20,.int .i64 2,.int .i64 15,.int .i64 6,.int .i64 20,.int .i64 300,(upd F (1+i) (⟨.slice none 0 0,87,5,0,[]⟩:OS) 0).v,.slice none 0 0] 47 from by rw [upd_other (by omega)]; exact HOB.out.ext HXG.out)
   have HGg:=Lib.hid (show BoxAt wg G #[.int .u64 xid,.bool xr,(upd F (1+i) (⟨.slice none 0 0,87,5,0,[]⟩:OS) (1+i)).v] 82 from by rw [upd_same]; exact HG.out)
   have HKg:=Lib.hid (show upd F (1+i) (⟨.slice none 0 0,87,5,0,[]⟩:OS) (1+i)=⟨(upd F (1+i) (⟨.slice none 0 0,87,5,0,[]⟩:OS) (1+i)).v,87,5,0,flatT (x.ports.take 0)⟩ from by rw [upd_same]; simp [flatT])
   obtain ⟨F5,hF5⟩:∃ F5,upd F (1+i) (⟨.slice none 0 0,87,5,0,[]⟩:OS)=F5:=⟨_,rfl⟩
   rw [hF5] at HFMg HFTg HNEg HOBg HGg HKg
   have HXLg:=Lib.hid (HXL.out.trans HXG.out)
   have HGB:=Lib.hid (show B≤G from by have h1:=HGW.out; have h2:=HBL.out; omega)
   clear hF5 HOB HFM HFT HG HXL HBL HXG HGW
   go_loopw [6] (fun s wr=>∃ (k:Nat) (F:Nat→OS) (wo:World),wo=wr∧s=.int .i64 k∧k≤pn∧BoxAt wo OB #[.int .i64 0,.int .i64 20,.int .i64 2,.int .i64 15,.int .i64 6,.int .i64 20,.int .i64 300,(F 0).v,.slice none 0 0] 47∧BoxAt wo G #[.int .u64 xid,.bool xr,(F (1+i)).v] 82∧Fam wo B (1+i+1) F∧FamN 82 87 F N i∧F (1+i)=⟨(F (1+i)).v,87,5,k,flatT (x.ports.take k)⟩∧(∀ j,j < 1+i+1→∀ g,(F j).v.ownBlock=some g→g ≠ G)∧Ext w1 wo∧G < wo.heap.size) (fun s _=>pn - (intOf s).toNat)
   case atStart=>exact ⟨0,F5,_,rfl,rfl,by omega,HOBg.out,HGg.out,HFMg.out,HFTg.out,HKg.out,HNEg.out,HXLg.out,heap_lt HGg.out⟩
   case round =>
    clear HOBg HGg HFMg HFTg HKg HNEg HXLg
    obtain ⟨k,F6,wo,rfl,rfl,hk,hob,hgb,hfm,hft,hkk,hne,hx,hgl⟩:=hrel
    rename World=>wl
    have ho:=hfm.1 (1+i) (by omega)
    rw [hkk] at ho
    have ho2:wl.ownsRow B 87 5 (F6 (1+i)).v k (flatT (x.ports.take k)):=ho
    obtain ⟨u,hu⟩:∃ u,(F6 (1+i)).v=u:=⟨_,rfl⟩
    rw [hu] at ho2 hgb
    obtain ⟨a3,c3,rfl⟩:=own_form2 ho2
    have HUV:=Lib.hid hu
    have HO:=Lib.hid ho2
    have HOB:=Lib.hid hob
    have HGX:=Lib.hid hgb
    have HFM:=Lib.hid hfm
    have HFT:=Lib.hid hft
    have HKK:=Lib.hid hkk
    have HNE:=Lib.hid hne
    have HXL:=Lib.hid hx
    have HGL:=Lib.hid hgl
    have HBL:=Lib.hid (show B≤wl.heap.size from by have:=HGB.out; omega)
    have c7:wl.cell? ⟨X,7,none⟩=some (.slice (some ⟨nb,no,none⟩) n ncap):=(HX1.out.ext hx).cell 7 rfl
    have cp:wl.cell? ⟨nb,no+i*3+2,none⟩=some (.slice pa pn pcap):=(HRW0.out _ (HE1.out.trans hx)).2.2
    have hup3:IntKind.i64.wrap ((k:Int)+1)=((k+1:Nat):Int):=by rw [IntKind.wrap_i64]; omega
    clear ho ho2 hu hob hgb hfm hft hkk hne hx hgl
    by_cases hlt2:k < pn
    ·have dlt2:decide ((k:Int) < (pn:Int))=true:=by simp; omega
     obtain ⟨pb,po,rfl,hpb,-,-,hp4⟩:=HPF.out (by omega)
     obtain ⟨p,hp⟩:∃ p,x.ports.getD k default=p:=⟨_,rfl⟩
     have RS:=Lib.hid (show wl.rangeAt pb (po+k*5) p.L from by
      have h4:=rangeR_ext (hp4 k hlt2) (HE1.out.trans HXL.out) hpb
      rw [hp] at h4
      exact h4)
     have HTK:=Lib.hid (show flatT (x.ports.take (k+1))=flatT (x.ports.take k) ++ p.L from by
      rw [take_snoc x.ports default (by rw [HPN.out]; exact hlt2),hp,flatT_snoc])
     obtain ⟨p1,p2,p3,p4,p5⟩:=p
     have HNU:=Lib.hid (show ∀ g,Value.ownBlock (.slice a3 k c3)=some g→g ≠ G from fun g h=>HNE.out (1+i) (by omega) g (by rw [HUV.out]; exact h))
     clear hp4 hp hpb
     go_wp2_with (first
      | fail
      | ((with_reducible refine at_load 67 ?_); refine wpList_load_mid rfl 67 _ rfl pb (po+k*5) rfl [.int .u16 p1,.int .u32 p2,.bool p3,.bool p4,.bool p5] _ RS.out Try.underlying67 rfl size_st ?_)
      | ((with_reducible refine at_alloc 67 ?_); refine al_zero rfl 67 rfl SUZ zero_st ?_
         intro H wh hqh hszh hxh)
      | ((with_reducible refine at_store 67 ?_); refine st_at rfl rfl 67 _ _ rfl H 0 _ #[.int .u16 p1,.int .u32 p2,.bool p3,.bool p4,.bool p5] SUZ #[.int .u16 p1,.int .u32 p2,.bool p3,.bool p4,.bool p5] 67 rfl rfl rfl hqh (by exact (by decide:0+5≤5)) (by kernel_rfl) rfl rfl ?_
         intro wk hqk hmk
         have E5:Ext wl wk:=hxh.mutE hmk (fun g hg h=>by have h2:g=H:=h; omega)
         have h0:wk.cell? ⟨H,0,none⟩=some (.int .u16 p1):=by rw [cell_row hqk]; rfl
         have h1:wk.cell? ⟨H,1,none⟩=some (.int .u32 p2):=by rw [cell_row hqk]; rfl
         have h2:wk.cell? ⟨H,2,none⟩=some (.bool p3):=by rw [cell_row hqk]; rfl
         have h3:wk.cell? ⟨H,3,none⟩=some (.bool p4):=by rw [cell_row hqk]; rfl
         have h4:wk.cell? ⟨H,4,none⟩=some (.bool p5):=by rw [cell_row hqk]; rfl
         have HGk:=Lib.hid (HGX.out.ext E5)
         have g2:wk.cell? ⟨G,2,none⟩=some (.slice a3 k c3):=HGk.out.cell 2 rfl
         have HXK:=Lib.hid E5
         have HOk:=Lib.hid ((ownR_ext HO.out E5).alloc (.cells #[.int .u16 p1,.int .u32 p2,.bool p3,.bool p4,.bool p5] 87))
         have HNW:=Lib.hid (fun (j:Nat) (u:Value) (hu:[Value.int .u16 p1,.int .u32 p2,.bool p3,.bool p4,.bool p5][j]?=some u)=>World.news_of_block (heap_alloc_new wk (.cells #[.int .u16 p1,.int .u32 p2,.bool p3,.bool p4,.bool p5] 87)) j u (by simpa using hu))
         have hBZ:B≤(wk.alloc (.cells #[.int .u16 p1,.int .u32 p2,.bool p3,.bool p4,.bool p5] 87)).heap.size:=by have h8:=HBL.out; have h9:=E5.size; simp; omega
         clear hqh hszh hxh hqk hmk E5 wh c7 cp)
      | ((with_reducible refine at_build 87 ?_); refine wpList_build2 rfl 87 _ rfl [(0,.int .u16 p1),(1,.int .u32 p2),(2,.bool p3),(3,.bool p4),(4,.bool p5)] rfl #[.int .u16 p1,.int .u32 p2,.bool p3,.bool p4,.bool p5] (bl_bt _ _ _ _ _) ?_)
      | (at_builtin; refine wpList_append_own_at _ rfl _ _ 80 rfl B 87 i3 (.agg SUZ) 5 12 Try.underlying80 I3.out.1 I3.out.2.1 I3.out.2.2.1 I3.out.2.2.2 rfl (by decide) _ k (flatT (x.ports.take k)) rfl HOk.out ⟨wk.heap.size,0,none⟩ 1 1 [.int .u16 p1,.int .u32 p2,.bool p3,.bool p4,.bool p5] rfl rfl HNW.out (by
           intro u hu
           simp only [List.mem_cons,List.not_mem_nil,or_false] at hu
           rcases hu with rfl | rfl | rfl | rfl | rfl <;> rfl) (by unfold maxLen; omega) (by omega) hBZ ?_
         intro v7 wa ho7 hg7 _ hb7
         obtain ⟨a7,c7',rfl⟩:=own_form2 ho7
         have hxw:wa.heap[G]?=some (.cells #[.int .u64 xid,.bool xr,.slice a3 k c3] 82 (0,0)):=(hg7.block G (Nat.lt_of_lt_of_le (heap_lt HGk.out) (by simp)) (fun e=>HNU.out _ e.symm rfl)).trans ((heap_alloc_old _ _ (heap_lt HGk.out)).trans HGk.out)
         clear h0 h1 h2 h3 h4 g2)
      | ((with_reducible refine at_store 80 ?_); refine st_at rfl rfl 80 _ _ rfl G 2 _ #[.slice a7 (k+1) c7'] #[.int .u64 xid,.bool xr,.slice a3 k c3] #[.int .u64 xid,.bool xr,.slice a7 (k+1) c7'] 82 rfl rfl rfl hxw (by exact (by decide:2+1≤3)) (by kernel_rfl) rfl rfl ?_
         intro ws hrow hm
         have hxa:=HXK.out.alloc (.cells #[.int .u16 p1,.int .u32 p2,.bool p3,.bool p4,.bool p5] 87)
         have HFR:=app_fr hxa hg7 hm
         have hsz:wl.heap.size≤(wk.alloc (.cells #[.int .u16 p1,.int .u32 p2,.bool p3,.bool p4,.bool p5] 87)).heap.size:=hxa.size
         obtain ⟨sz,hsz2⟩:∃ sz,(wk.alloc (.cells #[.int .u16 p1,.int .u32 p2,.bool p3,.bool p4,.bool p5] 87)).heap.size=sz:=⟨_,rfl⟩
         rw [hsz2] at hb7 hsz
         have hloc2:Value.ownBlock (.slice a7 (k+1) c7')=(F6 (1+i)).v.ownBlock∨Value.ownBlock (.slice a7 (k+1) c7')=some sz:=by rw [HUV.out]; exact hb7
         have hnew:∀ g,Value.ownBlock (.slice a7 (k+1) c7')=some g→g ≠ G:=fun g h1 h2=>by
          rcases hb7 with h | h
          ·rw [h] at h1; exact HNU.out g h1 h2
          ·rw [h] at h1
           have h4:sz=g:=by simpa using h1
           have h5:=HGL.out
           omega
         have hown6:=own_mut ho7 hm (fun g h1 h2=>hnew g h1 h2)
         have HFR2:Mut (fun g=>g=G∨(F6 (1+i)).v.ownBlock=some g) wl ws:=by rw [HUV.out]; exact HFR
         have hown7:OS.at (⟨.slice a7 (k+1) c7',87,5,k+1,flatT (x.ports.take (k+1))⟩:OS) ws B:=by
          show ws.ownsRow B 87 5 _ (k+1) (flatT (x.ports.take (k+1)))
          rw [HTK.out]
          exact hown6
         have HFM7:=Lib.hid (HFM.out.set (k:=1+i) (s:=sz) (G:=fun g=>g=G) (by omega) HFR2 HNE.out hown7 hsz hloc2)
         have HFT7:=Lib.hid (show FamN 82 87 (upd F6 (1+i) (⟨.slice a7 (k+1) c7',87,5,k+1,flatT (x.ports.take (k+1))⟩:OS)) N i from HFT.out.port)
         have HK7:=Lib.hid (show upd F6 (1+i) (⟨.slice a7 (k+1) c7',87,5,k+1,flatT (x.ports.take (k+1))⟩:OS) (1+i)=⟨(upd F6 (1+i) (⟨.slice a7 (k+1) c7',87,5,k+1,flatT (x.ports.take (k+1))⟩:OS) (1+i)).v,87,5,k+1,flatT (x.ports.take (k+1))⟩ from by rw [upd_same])
         have HNE7:=Lib.hid (Fam.apart (o:=(⟨.slice a7 (k+1) c7',87,5,k+1,flatT (x.ports.take (k+1))⟩:OS)) HNE.out (k:=1+i) (by omega) (Nat.lt_of_lt_of_le HGL.out hsz) hloc2)
         have hold:∀ g,g < B→¬ (g=G∨(F6 (1+i)).v.ownBlock=some g):=fun g h1 h2=>by
          rcases h2 with h2 | h2
          ·have:=HGB.out; omega
          ·have:=(own_lt2 (HFM.out.1 (1+i) (by omega)) h2).1; omega
         have HOB7:=Lib.hid (show BoxAt ws OB #[.int .i64 0,.int .i64 20,.int .i64 2,.int .i64 15,.int .i64 6,.int .i64 20,.int .i64 300,(upd F6 (1+i) (⟨.slice a7 (k+1) c7',87,5,k+1,flatT (x.ports.take (k+1))⟩:OS) 0).v,.slice none 0 0] 47 from by
          rw [upd_other (by omega)]
          exact HOB.out.mut HFR2 (hold OB HOBB.out))
         have HG7:=Lib.hid (show BoxAt ws G #[.int .u64 xid,.bool xr,(upd F6 (1+i) (⟨.slice a7 (k+1) c7',87,5,k+1,flatT (x.ports.take (k+1))⟩:OS) (1+i)).v] 82 from by rw [upd_same]; exact hrow)
         have HX7:=Lib.hid (HXL.out.mutE HFR2 (fun g h1=>hold g (by have:=HB1.out; omega)))
         have HGL7:=Lib.hid (Nat.lt_of_lt_of_le HGL.out HFR.size)
         clear HFR2 hloc2 hown7 hold HFR hown6 hsz hsz2 hb7 hxa hnew hrow hm ho7 hg7 hxw))
     go_roundw
     case rel=>exact ⟨k+1,_,_,rfl,by go_num,hlt2,HOB7.out,HG7.out,HFM7.out,HFT7.out,HK7.out,HNE7.out,HX7.out,HGL7.out⟩
     case measure=>simp [intOf] <;> omega
    ·have dlt2:decide ((k:Int) < (pn:Int))=false:=by simp; omega
     obtain rfl:pn=k:=by omega
     have hn0:=HFM.out.1 0 (by omega)
     rw [HFT.out.nd] at hn0
     have hn1:wl.ownsRow B 82 3 (F6 0).v i (ncG N (fun j=>(F6 (1+j)).v) i):=hn0
     obtain ⟨u9,hu9⟩:∃ u,(F6 0).v=u:=⟨_,rfl⟩
     rw [hu9] at hn1 HOB
     obtain ⟨a9,c9,rfl⟩:=own_form2 hn1
     have HU9:=Lib.hid hu9
     have HN9:=Lib.hid (hn1.alloc (.cells #[.int .u64 xid,.bool xr,.slice a3 pn c3] 82))
     have HN1:=Lib.hid hn1
     have HNW:=Lib.hid (fun (j:Nat) (u:Value) (hu:[Value.int .u64 xid,.bool xr,.slice a3 pn c3][j]?=some u)=>World.news_of_block (heap_alloc_new wl (.cells #[.int .u64 xid,.bool xr,.slice a3 pn c3] 82)) j u (by simpa using hu))
     have HP9:=Lib.hid (show F6 (1+i)=⟨(F6 (1+i)).v,87,5,(N.getD i default).ports.length,flatT (N.getD i default).ports⟩ from by
      have e:x.ports.take pn=x.ports:=List.take_of_length_le (by rw [HPN.out]; exact Nat.le_refl _)
      have h:=HKK.out
      rw [e] at h
      rw [HXX.out,HPN.out]
      exact h)
     have hBZ:B≤(wl.alloc (.cells #[.int .u64 xid,.bool xr,.slice a3 pn c3] 82)).heap.size:=by have:=HBL.out; simp; omega
     have o7:wl.cell? ⟨OB,7,none⟩=some (.slice a9 i c9):=HOB.out.cell 7 rfl
     clear hn0 hn1 hu9
     go_wp2_with (first
      | fail
      | ((with_reducible refine at_load 82 ?_); refine wpList_load_row rfl 82 _ rfl G rfl 82 #[.int .u64 xid,.bool xr,.slice a3 pn c3] (0,0) _ HGX.out Try.underlying82 rfl size_l2 ?_)
      | (at_builtin; refine wpList_append_own_at _ rfl _ _ 44 rfl B 82 i6 (.agg NDZ2) 3 40 Try.underlying44 I6.out.1 I6.out.2.1 I6.out.2.2.1 I6.out.2.2.2 rfl (by decide) _ i (ncG N (fun j=>(F6 (1+j)).v) i) rfl HN9.out ⟨wl.heap.size,0,none⟩ 1 1 [.int .u64 xid,.bool xr,.slice a3 pn c3] rfl rfl HNW.out (by
           intro u hu
           simp only [List.mem_cons,List.not_mem_nil,or_false] at hu
           rcases hu with rfl | rfl | rfl <;> rfl) (by unfold maxLen; omega) (by omega) hBZ ?_
         intro v7 wa ho7 hg7 _ hb7
         obtain ⟨a7,c7',rfl⟩:=own_form2 ho7
         have hxw:wa.heap[OB]?=some (.cells #[.int .i64 0,.int .i64 20,.int .i64 2,.int .i64 15,.int .i64 6,.int .i64 20,.int .i64 300,.slice a9 i c9,.slice none 0 0] 47 (0,0)):=(hg7.block OB (Nat.lt_of_lt_of_le (heap_lt HOB.out) (by simp)) (fun e=>by have h1:=(own_lt2 HN1.out e.symm).1; have h2:=HOBB.out; omega)).trans ((heap_alloc_old _ _ (heap_lt HOB.out)).trans HOB.out))
      | ((with_reducible refine at_store 44 ?_); refine st_at rfl rfl 44 _ _ rfl OB 7 _ #[.slice a7 (i+1) c7'] #[.int .i64 0,.int .i64 20,.int .i64 2,.int .i64 15,.int .i64 6,.int .i64 20,.int .i64 300,.slice a9 i c9,.slice none 0 0] #[.int .i64 0,.int .i64 20,.int .i64 2,.int .i64 15,.int .i64 6,.int .i64 20,.int .i64 300,.slice a7 (i+1) c7',.slice none 0 0] 47 rfl rfl rfl hxw (by exact (by decide:7+1≤9)) (by kernel_rfl) rfl rfl ?_
         intro ws hrow hm
         have HFR:=app_fr ((Ext.refl wl).alloc (.cells #[.int .u64 xid,.bool xr,.slice a3 pn c3] 82)) hg7 hm
         have hown6:=own_mut ho7 hm (fun g h1 h2=>by have h3:=(own_lt2 ho7 h1).1; have h4:=HOBB.out; have h5:g=OB:=h2; omega)
         have HFR2:Mut (fun g=>g=OB∨(F6 0).v.ownBlock=some g) wl ws:=by rw [HU9.out]; exact HFR
         have hloc2:Value.ownBlock (.slice a7 (i+1) c7')=(F6 0).v.ownBlock∨Value.ownBlock (.slice a7 (i+1) c7')=some (wl.alloc (.cells #[.int .u64 xid,.bool xr,.slice a3 pn c3] 82)).heap.size:=by rw [HU9.out]; exact hb7
         have hown7:OS.at (⟨.slice a7 (i+1) c7',82,3,i+1,ncG N (fun j=>(F6 (1+j)).v) i ++ [.int .u64 (N.getD i default).id,.bool (N.getD i default).rst,(F6 (1+i)).v]⟩:OS) ws B:=by
          show ws.ownsRow B 82 3 _ (i+1) (ncG N (fun j=>(F6 (1+j)).v) i ++ [.int .u64 (N.getD i default).id,.bool (N.getD i default).rst,(F6 (1+i)).v])
          rw [HXX.out,HXI.out,HXR.out,HUV.out]
          exact hown6
         have HFMN:=Lib.hid (HFM.out.set (k:=0) (s:=(wl.alloc (.cells #[.int .u64 xid,.bool xr,.slice a3 pn c3] 82)).heap.size) (G:=fun g=>g=OB) (by omega) HFR2 (fun j hj g h1 e=>by have h2:=(own_lt2 (HFM.out.1 j hj) h1).1; have h3:=HOBB.out; have h4:g=OB:=e; omega) hown7 (by simp) hloc2)
         have HFTN:=Lib.hid (show FamN 82 87 (upd F6 0 (⟨.slice a7 (i+1) c7',82,3,i+1,ncG N (fun j=>(F6 (1+j)).v) i ++ [.int .u64 (N.getD i default).id,.bool (N.getD i default).rst,(F6 (1+i)).v]⟩:OS)) N (i+1) from HFT.out.node HP9.out)
         have HOBN:=Lib.hid (show BoxAt ws OB #[.int .i64 0,.int .i64 20,.int .i64 2,.int .i64 15,.int .i64 6,.int .i64 20,.int .i64 300,(upd F6 0 (⟨.slice a7 (i+1) c7',82,3,i+1,ncG N (fun j=>(F6 (1+j)).v) i ++ [.int .u64 (N.getD i default).id,.bool (N.getD i default).rst,(F6 (1+i)).v]⟩:OS) 0).v,.slice none 0 0] 47 from by rw [upd_same]; exact hrow)
         have HXN:=Lib.hid (HXL.out.mutE HFR2 (fun g h1 h=>by
          have h5:=HOW.out
          have h6:=HB1.out
          rcases h with h | h
          ·omega
          ·have h7:=(own_lt2 (HFM.out.1 0 (by omega)) h).1
           omega))
         have HBN:=Lib.hid (Nat.le_trans HBL.out HFR.size)
         clear hrow hm ho7 hg7 hb7 hxw hown6 hown7 hloc2 HFR HFR2))
     go_roundw
     case rel=>exact ⟨i+1,_,_,rfl,by go_num,hlt,HOBN.out,HFMN.out,HFTN.out,HXN.out,HBN.out⟩
     case measure=>simp [intOf] <;> omega
  ·have dlt:decide ((i:Int) < (n:Int))=false:=by simp; omega
   obtain rfl:n=i:=by omega
   rename World=>w8
   have c8:w8.cell? ⟨X,8,none⟩=some (.slice sa m scap):=(HX1.out.ext HXL.out).cell 8 rfl
   obtain ⟨B2,hB2⟩:∃ B,w8.heap.size=B:=⟨_,rfl⟩
   have HB2:=Lib.hid hB2
   have HOB2:=Lib.hid (show OB < B2 from by rw [← hB2]; exact heap_lt HOB.out)
   have HB12:=Lib.hid (show w1.heap.size≤B2 from by rw [← hB2]; exact HXL.out.size)
   have HXL8:=HXL
   have HFM8:=HFM
   have HFT8:=HFT
   have hone:(F 0).v.oneCell'=true:=by
    have hn0:=HFM.out.1 0 (by omega)
    obtain ⟨a,c,e⟩:=own_form2 hn0
    rw [e]
    rfl
   have HONE:=Lib.hid hone
   clear hB2 hone HXL HFM HFT HBL
   go_wp2_with fail
   go_loopw [8] (fun q wr=>∃ (s:Nat) (F2:Nat→OS) (wo:World),wo=wr∧q=.int .i64 s∧s≤m∧BoxAt wo OB #[.int .i64 0,.int .i64 20,.int .i64 2,.int .i64 15,.int .i64 6,.int .i64 20,.int .i64 300,(F 0).v,(F2 0).v] 47∧Fam wo B2 (1+s) F2∧FamS 39 58 F2 S s∧Mut (fun g=>g=OB) w8 wo) (fun q _=>m - (intOf q).toNat)
   case atStart=>exact ⟨0,fun _=>⟨.slice none 0 0,39,1,0,[]⟩,_,rfl,rfl,by omega,HOB.out,⟨fun k hk=>⟨by simp,.inl ⟨rfl,rfl⟩⟩,fun j k hj hk hjk=>by omega⟩,⟨rfl,fun j hj=>by omega⟩,Mut.refl _ _⟩
   case round =>
    clear HOB c8 c7
    obtain ⟨s,F2,wo,rfl,rfl,hs,hob,hfm,hft,hml⟩:=hrel
    rename World=>wl
    have HOB:=Lib.hid hob
    have HFM:=Lib.hid hfm
    have HFT:=Lib.hid hft
    have HML:=Lib.hid hml
    have HXL:=Lib.hid (HXL8.out.mutE hml (fun g h1 h2=>by have h3:g=OB:=h2; have h4:=HOW.out; omega))
    have HBL:=Lib.hid (show B2≤wl.heap.size from by rw [← HB2.out]; exact hml.size)
    clear hob hfm hft hml
    have c8:wl.cell? ⟨X,8,none⟩=some (.slice sa m scap):=(HX1.out.ext HXL.out).cell 8 rfl
    by_cases hlt:s < m
    ·have dlt:decide ((s:Int) < (m:Int))=true:=by simp; omega
     have hup:IntKind.i64.wrap ((s:Int)+1)=((s+1:Nat):Int):=by rw [IntKind.wrap_i64]; omega
     obtain ⟨sb,so,rfl,hsb,hsc,-,hs4⟩:=HSF.out (by omega)
     have hr:=hs4 s hlt
     rw [Nat.mul_one] at hr
     obtain ⟨seg,hseg⟩:∃ seg,S.getD s []=seg:=⟨_,rfl⟩
     have hpl:=HPL.out s hlt
     rw [hseg] at hpl
     obtain ⟨qa,qcap,hqe,hqm,hqf⟩:=hpl
     obtain ⟨ls,hls⟩:∃ m,seg.length=m:=⟨_,rfl⟩
     rw [hls] at hqe hqm hqf
     have hl60:ls≤60:=by have:=HS6.out s hlt; rw [hseg,hls] at this; exact this
     have HCS:=Lib.hid (show ∀ W',Ext w W'→W'.cell? ⟨sb,so+s,none⟩=some (.slice qa ls qcap) from fun W' h=>by
      have h0:=range_one hr (j:=0) rfl
      rw [Nat.add_zero] at h0
      rw [hqe] at h0
      exact (h.cell hsb).trans h0)
     have HQF:=Lib.hid (show 0 < ls→∃ b off,qa=some ⟨b,off,none⟩∧b < w.heap.size∧ls≤qcap∧qcap≤9223372036854775807∧∀ i,i < ls→w.rangeAt b (off+i*2) (plL (seg.getD i (0,0))) from hqf)
     have HSEG:=Lib.hid hseg
     have HLS:=Lib.hid hls
     have HFMn:=Lib.hid (HFM.out.nil 58 2)
     have HFTn:=Lib.hid (show FamS 39 58 (upd F2 (1+s) ⟨.slice none 0 0,58,2,0,[]⟩) S s from HFT.out.seg)
     have HOBn:=Lib.hid (show BoxAt wl OB #[.int .i64 0,.int .i64 20,.int .i64 2,.int .i64 15,.int .i64 6,.int .i64 20,.int .i64 300,(F 0).v,(upd F2 (1+s) (⟨.slice none 0 0,58,2,0,[]⟩:OS) 0).v] 47 from by rw [upd_other (by omega)]; exact HOB.out)
     have HKn:=Lib.hid (show upd F2 (1+s) (⟨.slice none 0 0,58,2,0,[]⟩:OS) (1+s)=⟨.slice none 0 0,58,2,0,flatP (seg.take 0)⟩ from by rw [upd_same]; simp [flatP])
     obtain ⟨F5,hF5⟩:∃ F5,upd F2 (1+s) (⟨.slice none 0 0,58,2,0,[]⟩:OS)=F5:=⟨_,rfl⟩
     rw [hF5] at HFMn HFTn HOBn HKn
     clear hs4 hr hqe hqm hqf hseg hls hsb hsc hF5 HFM HFT HOB
     go_wp2_with fail
     go_loopw [9,10] (fun p q wr=>∃ (k:Nat) (u:Value) (F3:Nat→OS) (wo:World),wo=wr∧u=p∧q=.int .i64 k∧k≤ls∧BoxAt wo OB #[.int .i64 0,.int .i64 20,.int .i64 2,.int .i64 15,.int .i64 6,.int .i64 20,.int .i64 300,(F 0).v,(F3 0).v] 47∧Fam wo B2 (1+s+1) F3∧FamS 39 58 F3 S s∧F3 (1+s)=⟨u,58,2,k,flatP (seg.take k)⟩∧Mut (fun g=>g=OB) w8 wo) (fun _ q _=>ls - (intOf q).toNat)
     case atStart=>exact ⟨0,_,F5,_,rfl,rfl,rfl,by omega,HOBn.out,HFMn.out,HFTn.out,HKn.out,HML.out⟩
     case round =>
      clear HOBn HFMn HFTn HKn HML HXL HBL c8
      obtain ⟨k,u,F6,wo,rfl,rfl,rfl,hk,hob,hfm,hft,hkk,hml⟩:=hrel
      rename World=>wl
      have ho:=hfm.1 (1+s) (by omega)
      rw [hkk] at ho
      have ho2:wl.ownsRow B2 58 2 u k (flatP (seg.take k)):=ho
      obtain ⟨a3,c3,rfl⟩:=own_form2 ho2
      have HO:=Lib.hid ho2
      have HUV:=Lib.hid (show (F6 (1+s)).v=.slice a3 k c3 from by rw [hkk])
      have HOB:=Lib.hid hob
      have HFM:=Lib.hid hfm
      have HFT:=Lib.hid hft
      have HKK:=Lib.hid hkk
      have HML:=Lib.hid hml
      have HXL:=Lib.hid (HXL8.out.mutE hml (fun g h1 h2=>by have h3:g=OB:=h2; have h4:=HOW.out; omega))
      have HBL:=Lib.hid (show B2≤wl.heap.size from by rw [← HB2.out]; exact hml.size)
      have c8:wl.cell? ⟨X,8,none⟩=some (.slice (some ⟨sb,so,none⟩) m scap):=(HX1.out.ext HXL.out).cell 8 rfl
      have cs:wl.cell? ⟨sb,so+s,none⟩=some (.slice qa ls qcap):=HCS.out _ (HE1.out.trans HXL.out)
      have hup3:IntKind.i64.wrap ((k:Int)+1)=((k+1:Nat):Int):=by rw [IntKind.wrap_i64]; omega
      clear ho ho2 hob hfm hft hkk hml
      by_cases hlt2:k < ls
      ·have dlt2:decide ((k:Int) < (ls:Int))=true:=by simp; omega
       obtain ⟨qb,qo,rfl,hqb,-,-,hq4⟩:=HQF.out (by omega)
       obtain ⟨p,hp⟩:∃ p,seg.getD k (0,0)=p:=⟨_,rfl⟩
       have HTK:=Lib.hid (show flatP (seg.take (k+1))=flatP (seg.take k) ++ plL p from by
        rw [take_snoc seg (0,0) (by rw [HLS.out]; exact hlt2),hp,flatP_snoc])
       obtain ⟨p1,p2⟩:=p
       have HPP:=Lib.hid (show ∀ W',Ext w W'→W'.cell? ⟨qb,qo+k*2,none⟩=some (.int .i64 p1)∧W'.cell? ⟨qb,qo+k*2+1,none⟩=some (.int .i64 p2) from fun W' h=>by
        have h4:=hq4 k hlt2
        rw [hp] at h4
        have h0:=range_one h4 (j:=0) rfl
        have h1:=range_one h4 (j:=1) rfl
        rw [Nat.add_zero] at h0
        exact ⟨(h.cell hqb).trans h0,(h.cell hqb).trans h1⟩)
       clear hq4 hp hqb
       go_wp2_with fail
       have HEXT:=Lib.hid (show ∀ W',Mut (fun g=>Value.ownBlock (.slice a3 k c3)=some g) wl W'→Ext w1 W' from fun W' h=>HXL.out.mutE h (fun g h1 h2=>by have h3:=(own_lt2 HO.out h2).1; have h4:=HB12.out; omega))
       refine beginL (S:=fun W'=>Mut (fun g=>Value.ownBlock (.slice a3 k c3)=some g) wl W') (by kernel_rfl) ?_
       intro wd hqx
       have hq0:Mut (fun g=>Value.ownBlock (.slice a3 k c3)=some g) wl wd:=hqx.mut _
       refine tLp 0 ((.slice a3 k c3)) rfl hq0 ?_
       simp only [ps]
       refine tLp 1 ((.pointer (some ⟨X,8,none⟩))) rfl hq0 ?_
       simp only [ps]
       refine tL 2 (_) rfl (yieldsIf_cell rfl 30 _ rfl ⟨X,8,none⟩ rfl (.slice (some ⟨sb,so,none⟩) m scap) _ (fun W' hW'=>(HX1.out.ext (HEXT.out W' hW')).cell 8 rfl) Try.underlying30 rfl) hq0 ?_
       simp only [ps]
       refine tLp 3 ((.int .i64 (s:Int))) rfl hq0 ?_
       simp only [ps]
       refine tL 4 ((.pointer (some ⟨sb,so+s,none⟩))) rfl (Or.inl ⟨rfl,fun W' _=>by go_simp <;> (intro h; omega)⟩) hq0 ?_
       simp only [ps]
       refine tL 5 (_) rfl (yieldsIf_cell rfl 49 _ rfl ⟨sb,so+s,none⟩ rfl (.slice (some ⟨qb,qo,none⟩) ls qcap) _ (fun W' hW'=>HCS.out W' (HE1.out.trans (HEXT.out W' hW'))) Try.underlying49 rfl) hq0 ?_
       simp only [ps]
       refine tLp 6 ((.int .i64 (k:Int))) rfl hq0 ?_
       simp only [ps]
       refine tL 7 ((.pointer (some ⟨qb,qo+k*2,none⟩))) rfl (Or.inl ⟨rfl,fun W' _=>by go_simp <;> (intro h; omega)⟩) hq0 ?_
       simp only [ps]
       refine tLp 8 ((.pointer (some ⟨qb,qo+k*2,none⟩))) rfl hq0 ?_
       simp only [ps]
       refine tL 9 (_) rfl (yieldsIf_cell rfl 3 _ rfl ⟨qb,qo+k*2,none⟩ rfl (.int .i64 p1) _ (fun W' hW'=>(HPP.out W' (HE1.out.trans (HEXT.out W' hW'))).1) Try.underlying3 rfl) hq0 ?_
       simp only [ps]
       refine tLp 10 ((.pointer (some ⟨X,8,none⟩))) rfl hq0 ?_
       simp only [ps]
       refine tL 11 (_) rfl (yieldsIf_cell rfl 30 _ rfl ⟨X,8,none⟩ rfl (.slice (some ⟨sb,so,none⟩) m scap) _ (fun W' hW'=>(HX1.out.ext (HEXT.out W' hW')).cell 8 rfl) Try.underlying30 rfl) hq0 ?_
       simp only [ps]
       refine tLp 12 ((.int .i64 (s:Int))) rfl hq0 ?_
       simp only [ps]
       refine tL 13 ((.pointer (some ⟨sb,so+s,none⟩))) rfl (Or.inl ⟨rfl,fun W' _=>by go_simp <;> (intro h; omega)⟩) hq0 ?_
       simp only [ps]
       refine tL 14 (_) rfl (yieldsIf_cell rfl 49 _ rfl ⟨sb,so+s,none⟩ rfl (.slice (some ⟨qb,qo,none⟩) ls qcap) _ (fun W' hW'=>HCS.out W' (HE1.out.trans (HEXT.out W' hW'))) Try.underlying49 rfl) hq0 ?_
       simp only [ps]
       refine tLp 15 ((.int .i64 (k:Int))) rfl hq0 ?_
       simp only [ps]
       refine tL 16 ((.pointer (some ⟨qb,qo+k*2,none⟩))) rfl (Or.inl ⟨rfl,fun W' _=>by go_simp <;> (intro h; omega)⟩) hq0 ?_
       simp only [ps]
       refine tLp 17 ((.pointer (some ⟨qb,qo+k*2+1,none⟩))) rfl hq0 ?_
       simp only [ps]
       refine tL 18 (_) rfl (yieldsIf_cell rfl 3 _ rfl ⟨qb,qo+k*2+1,none⟩ rfl (.int .i64 p2) _ (fun W' hW'=>(HPP.out W' (HE1.out.trans (HEXT.out W' hW'))).2) Try.underlying3 rfl) hq0 ?_
       simp only [ps]
       refine tL 19 ((.agg #[.int .i64 p1,.int .i64 p2])) rfl (yieldsIf_build rfl 58 _ rfl [(0,.int .i64 p1),(1,.int .i64 p2)] rfl #[.int .i64 p1,.int .i64 p2] (bl_lp _ _)) hq0 ?_
       simp only [ps]
       refine runL (i:=20) rfl rfl (by kernel_rfl) (fun K hK=>?_)
       refine wp_buildSlice 39 58 1 _ rfl #[.int .i64 p1,.int .i64 p2] i2 (.agg PZ2) Try.underlying39 I2.out.1 I2.out.2.1 (by rw [I2.out.2.2.1]; decide) (by rw [I2.out.2.2.1]; decide) (by rw [I2.out.2.2.1,Array.toList_map]; exact b1_pl _ _) ?_
       have hy:Ext wd (wd.alloc (.cells #[.int .i64 p1,.int .i64 p2] 58)):=(Ext.refl _).alloc _
       have hnw:=heap_alloc_new wd (.cells #[.int .i64 p1,.int .i64 p2] 58)
       obtain ⟨wn,hwa⟩:∃ W,wd.alloc (.cells #[.int .i64 p1,.int .i64 p2] 58)=W:=⟨_,rfl⟩
       obtain ⟨bn,hnb⟩:∃ m,wd.heap.size=m:=⟨_,rfl⟩
       rw [hwa] at hnw hy ⊢
       rw [hnb] at hnw ⊢
       clear hwa hnb
       have hxn:Ext wl wn:=hqx.trans hy
       have hO2:=ownR_ext HO.out hxn
       have hbw:B2≤wn.heap.size:=Nat.le_trans HBL.out hxn.size
       refine hK.out _ _ (hxn.mut _) (fun _=>?_)
       try simp only [ps]
       clear hK K
       refine runL (i:=21) rfl rfl (by kernel_rfl) (fun K hK=>?_)
       refine oper_append_own_at _ _ 39 rfl B2 58 i2 (.agg PZ2) 2 16 Try.underlying39 I2.out.1 I2.out.2.1 I2.out.2.2.1 I2.out.2.2.2 rfl (by decide) (.slice a3 k c3) k (flatP (seg.take k)) rfl hO2 ⟨bn,0,none⟩ 1 1 [.int .i64 p1,.int .i64 p2] rfl rfl ?hnews (fun u hu=>by
           have hu2:=hu
           simp only [List.mem_cons,List.not_mem_nil,or_false] at hu2
           rcases hu2 with rfl | rfl <;> rfl) (by unfold maxLen; omega) (by omega) hbw ?hfin
       case hnews=>exact fun j u hu=>World.news_of_block hnw j u (by simpa using hu)
       case hfin =>
       intro v6 wa ho6 hg6 hloc
       have hfr:Mut (fun g=>Value.ownBlock (.slice a3 k c3)=some g) wl wa:=(hxn.mut _).trans (grown_mut hg6)
       obtain ⟨a6,c6,rfl⟩:=own_form2 ho6
       have HFR2:Mut (fun g=>False∨(F6 (1+s)).v.ownBlock=some g) wl wa:=by rw [HUV.out]; exact hfr.mono (fun g _ h=>.inr h)
       have hloc2:Value.ownBlock (.slice a6 (k+1) c6)=(F6 (1+s)).v.ownBlock∨Value.ownBlock (.slice a6 (k+1) c6)=some wn.heap.size:=by rw [HUV.out]; exact hloc
       have hown7:OS.at (⟨.slice a6 (k+1) c6,58,2,k+1,flatP (seg.take (k+1))⟩:OS) wa B2:=by
        show wa.ownsRow B2 58 2 _ (k+1) (flatP (seg.take (k+1)))
        rw [HTK.out]
        exact ho6
       have HFM7:=Lib.hid (HFM.out.set (k:=1+s) (G:=fun _=>False) (by omega) HFR2 (fun _ _ _ _ h=>h) hown7 hxn.size hloc2)
       have HFT7:=Lib.hid (show FamS 39 58 (upd F6 (1+s) (⟨.slice a6 (k+1) c6,58,2,k+1,flatP (seg.take (k+1))⟩:OS)) S s from HFT.out.seg)
       have HK7:=Lib.hid (show upd F6 (1+s) (⟨.slice a6 (k+1) c6,58,2,k+1,flatP (seg.take (k+1))⟩:OS) (1+s)=⟨.slice a6 (k+1) c6,58,2,k+1,flatP (seg.take (k+1))⟩ from by rw [upd_same])
       have HOB7:=Lib.hid (show BoxAt wa OB #[.int .i64 0,.int .i64 20,.int .i64 2,.int .i64 15,.int .i64 6,.int .i64 20,.int .i64 300,(F 0).v,(upd F6 (1+s) (⟨.slice a6 (k+1) c6,58,2,k+1,flatP (seg.take (k+1))⟩:OS) 0).v] 47 from by
        rw [upd_other (by omega)]
        exact HOB.out.mut hfr (fun h=>by have h1:=(own_lt2 HO.out h).1; have h2:=HOB2.out; omega))
       have HM7:=Lib.hid (HML.out.app hfr (fun g h1 h=>by have h3:=(own_lt2 HO.out h).1; have h8:=HB2.out; omega))
       refine hK.out _ _ hfr (fun _=>?_)
       try simp only [ps]
       clear hK K
       refine tLp 22 ((.slice a6 (k+1) c6)) rfl hfr ?_
       simp only [ps]
       clear hfr HFR2 hloc2 hown7 hloc ho6 hg6 hbw hO2 hxn hy hnw hq0 hqx
       refine wpAnyH_done (by kernel_rfl) ?_ _
       go_wp2_with fail
       go_roundw
       case rel=>exact ⟨k+1,_,_,_,rfl,rfl,by go_num,hlt2,HOB7.out,HFM7.out,HFT7.out,HK7.out,HM7.out⟩
       case measure=>simp [intOf] <;> omega
      ·have dlt2:decide ((k:Int) < (ls:Int))=false:=by simp; omega
       obtain rfl:ls=k:=by omega
       have hn0:=HFM.out.1 0 (by omega)
       rw [HFT.out.sg] at hn0
       have hn1:wl.ownsRow B2 39 1 (F6 0).v s ((List.range s).map (fun j=>(F6 (1+j)).v)):=hn0
       obtain ⟨u9,hu9⟩:∃ u,(F6 0).v=u:=⟨_,rfl⟩
       rw [hu9] at hn1 HOB
       obtain ⟨a9,c9,rfl⟩:=own_form2 hn1
       have HU9:=Lib.hid hu9
       have HN9:=Lib.hid (hn1.alloc (.cells #[.slice a3 ls c3] 39))
       have HN1:=Lib.hid hn1
       have HNW:=Lib.hid (fun (j:Nat) (u:Value) (hu:[Value.slice a3 ls c3][j]?=some u)=>World.news_of_block (heap_alloc_new wl (.cells #[.slice a3 ls c3] 39)) j u (by simpa using hu))
       have HP9:=Lib.hid (show F6 (1+s)=⟨(F6 (1+s)).v,58,2,(S.getD s []).length,flatP (S.getD s [])⟩ from by
        have e:seg.take ls=seg:=List.take_of_length_le (by rw [HLS.out]; exact Nat.le_refl _)
        have h:=HKK.out
        rw [e] at h
        rw [HSEG.out,HLS.out,HUV.out]
        exact h)
       have hBZ:B2≤(wl.alloc (.cells #[.slice a3 ls c3] 39)).heap.size:=by have:=HBL.out; simp; omega
       have o8:wl.cell? ⟨OB,8,none⟩=some (.slice a9 s c9):=HOB.out.cell 8 rfl
       clear hn0 hn1 hu9
       go_wp2_with (first
        | fail
        | (at_builtin; refine wpList_append_own_at _ rfl _ _ 45 rfl B2 39 i4 (.slice none 0 0) 1 24 Try.underlying45 I4.out.1 I4.out.2.1 I4.out.2.2.1 I4.out.2.2.2 rfl (by decide) _ s ((List.range s).map (fun j=>(F6 (1+j)).v)) rfl HN9.out ⟨wl.heap.size,0,none⟩ 1 1 [.slice a3 ls c3] rfl rfl HNW.out (by
             intro u hu
             simp only [List.mem_cons,List.not_mem_nil,or_false] at hu
             subst hu
             rfl) (by unfold maxLen; omega) (by omega) hBZ ?_
           intro v7 wa ho7 hg7 _ hb7
           obtain ⟨a7,c7',rfl⟩:=own_form2 ho7
           have hxw:wa.heap[OB]?=some (.cells #[.int .i64 0,.int .i64 20,.int .i64 2,.int .i64 15,.int .i64 6,.int .i64 20,.int .i64 300,(F 0).v,.slice a9 s c9] 47 (0,0)):=(hg7.block OB (Nat.lt_of_lt_of_le (heap_lt HOB.out) (by simp)) (fun e=>by have h1:=(own_lt2 HN1.out e.symm).1; have h2:=HOB2.out; omega)).trans ((heap_alloc_old _ _ (heap_lt HOB.out)).trans HOB.out))
        | ((with_reducible refine at_store 45 ?_); refine st_at rfl rfl 45 _ _ rfl OB 8 _ #[.slice a7 (s+1) c7'] #[.int .i64 0,.int .i64 20,.int .i64 2,.int .i64 15,.int .i64 6,.int .i64 20,.int .i64 300,(F 0).v,.slice a9 s c9] #[.int .i64 0,.int .i64 20,.int .i64 2,.int .i64 15,.int .i64 6,.int .i64 20,.int .i64 300,(F 0).v,.slice a7 (s+1) c7'] 47 rfl rfl rfl hxw (by exact (by decide:8+1≤9)) (by kernel_rfl) rfl rfl ?_
           intro ws hrow hm
           have HFR:=app_fr ((Ext.refl wl).alloc (.cells #[.slice a3 ls c3] 39)) hg7 hm
           have hown6:=own_mut ho7 hm (fun g h1 h2=>by have h3:=(own_lt2 ho7 h1).1; have h4:=HOB2.out; have h5:g=OB:=h2; omega)
           have HFR2:Mut (fun g=>g=OB∨(F6 0).v.ownBlock=some g) wl ws:=by rw [HU9.out]; exact HFR
           have hloc2:Value.ownBlock (.slice a7 (s+1) c7')=(F6 0).v.ownBlock∨Value.ownBlock (.slice a7 (s+1) c7')=some (wl.alloc (.cells #[.slice a3 ls c3] 39)).heap.size:=by rw [HU9.out]; exact hb7
           have hown7:OS.at (⟨.slice a7 (s+1) c7',39,1,s+1,(List.range s).map (fun j=>(F6 (1+j)).v) ++ [(F6 (1+s)).v]⟩:OS) ws B2:=by
            show ws.ownsRow B2 39 1 _ (s+1) ((List.range s).map (fun j=>(F6 (1+j)).v) ++ [(F6 (1+s)).v])
            rw [HUV.out]
            exact hown6
           have HFMN:=Lib.hid (HFM.out.set (k:=0) (s:=(wl.alloc (.cells #[.slice a3 ls c3] 39)).heap.size) (G:=fun g=>g=OB) (by omega) HFR2 (fun j hj g h1 e=>by have h2:=(own_lt2 (HFM.out.1 j hj) h1).1; have h3:=HOB2.out; have h4:g=OB:=e; omega) hown7 (by simp) hloc2)
           have HFTN:=Lib.hid (show FamS 39 58 (upd F6 0 (⟨.slice a7 (s+1) c7',39,1,s+1,(List.range s).map (fun j=>(F6 (1+j)).v) ++ [(F6 (1+s)).v]⟩:OS)) S (s+1) from HFT.out.node HP9.out)
           have HOBN:=Lib.hid (show BoxAt ws OB #[.int .i64 0,.int .i64 20,.int .i64 2,.int .i64 15,.int .i64 6,.int .i64 20,.int .i64 300,(F 0).v,(upd F6 0 (⟨.slice a7 (s+1) c7',39,1,s+1,(List.range s).map (fun j=>(F6 (1+j)).v) ++ [(F6 (1+s)).v]⟩:OS) 0).v] 47 from by rw [upd_same]; exact hrow)
           have HMN:=Lib.hid (HML.out.app HFR2 (fun g h1 h=>by
            rcases h with h | h
            ·exact h
            ·have h7:=(own_lt2 (HFM.out.1 0 (by omega)) h).1
             have h8:=HB2.out
             omega))
           clear hrow hm ho7 hg7 hb7 hxw hown6 hown7 hloc2 HFR HFR2))
       go_roundw
       case rel=>exact ⟨s+1,_,_,rfl,by go_num,hlt,HOBN.out,HFMN.out,HFTN.out,HMN.out⟩
       case measure=>simp [intOf] <;> omega
    ·have dlt:decide ((s:Int) < (m:Int))=false:=by simp; omega
     obtain rfl:m=s:=by omega
     have hone2:(F2 0).v.oneCell'=true:=by
      have hn0:=HFM.out.1 0 (by omega)
      obtain ⟨a,c,e⟩:=own_form2 hn0
      rw [e]
      rfl
     have hones:(#[.int .i64 0,.int .i64 20,.int .i64 2,.int .i64 15,.int .i64 6,.int .i64 20,.int .i64 300,(F 0).v,(F2 0).v]:Array Value).toList.all (·.oneCell')=true:=by
      show (true && (true && (true && (true && (true && (true && (true && ((F 0).v.oneCell' && ((F2 0).v.oneCell' && true)))))))))=true
      rw [hone2,HONE.out]
      rfl
     have HONS:=Lib.hid hones
     have HON2:=Lib.hid hone2
     have HRBL:=Lib.hid (HRB.out.ext HXL.out)
     clear hone2 hones
     go_wp2_with (first
      | fail
      | ((with_reducible refine at_load 47 ?_); refine wpList_load_row rfl 47 _ rfl OB rfl 47 #[.int .i64 0,.int .i64 20,.int .i64 2,.int .i64 15,.int .i64 6,.int .i64 20,.int .i64 300,(F 0).v,(F2 0).v] (0,0) _ HOB.out Try.underlying47 rfl size_net ?_)
      | ((with_reducible refine at_store 47 ?_); refine st_at rfl rfl 47 _ _ rfl RB 0 _ #[.int .i64 0,.int .i64 20,.int .i64 2,.int .i64 15,.int .i64 6,.int .i64 20,.int .i64 300,(F 0).v,(F2 0).v] NZ #[.int .i64 0,.int .i64 20,.int .i64 2,.int .i64 15,.int .i64 6,.int .i64 20,.int .i64 300,(F 0).v,(F2 0).v] 47 rfl rfl rfl HRBL.out (by exact (by decide:0+9≤9)) (by kernel_rfl) (HONS.out) rfl ?_
         intro wz hqz hmz
         have HRZ:=Lib.hid hqz
         have HMZ:=Lib.hid hmz
         clear hqz hmz))
     refine bodyPost_ret (results_cell_row rfl _ _ RB _ _ (0,0) _ rfl HRZ.out Try.underlying47 rfl size_net) rfl ?_
     have hrb1:RB < w1.heap.size:=heap_lt HRB.out
     have hX:=(HE1.out.trans HXL.out).mutE HMZ.out (fun g h1 h2=>by have h3:g=RB:=h2; have h4:=HRW.out; omega)
     have hf1:Fam wz B (1+n) F:=(HFM8.out.mut HML.out (fun j hj g h1 h2=>by have h3:g=OB:=h2; have h4:=(own_lt2 (HFM8.out.1 j hj) h1).1; have h5:=HOBB.out; omega)).mut HMZ.out (fun j hj g h1 h2=>by have h3:g=RB:=h2; have h4:=(own_lt2 (HFM8.out.1 j hj) h1).1; have h5:=HB1.out; omega)
     have hf2:Fam wz B2 (1+m) F2:=HFM.out.mut HMZ.out (fun j hj g h1 h2=>by have h3:g=RB:=h2; have h4:=(own_lt2 (HFM.out.1 j hj) h1).1; have h5:=HB12.out; omega)
     refine ⟨_,_,rfl,HONE.out,HON2.out,?_,?_,hX⟩
     ·have hft:=HFT8.out
      rw [← HN.out] at hf1 hft
      exact famN_at hf1 hft (by rw [HN.out]; exact hn5) (by rw [HN.out]; exact HNP.out)
     ·have hft:=HFT.out
      rw [← HM.out] at hf2 hft
      exact famS_at hf2 hft (by rw [HM.out]; exact hs20) (by rw [HM.out]; exact HS6.out)
end Go.Proofs.Ytamnmjckhicapaa
