/- Part 14 of what PlanVersions stands on. No statement is proved here. -/
import Derived.Test.YtamnmjckhicapaaPtFm
namespace Go.Proofs.Ytamnmjckhicapaa
open Go.RowKit Go.BigFrame Go.WideShapes Go.ChangeShapes Go.Deep
set_option linter.unusedVariables false
set_option linter.unusedSimpArgs false
set_option maxRecDepth 100000
theorem SegM.ext {w w':World} {b n:Nat} {f:Pl→Option Int} (h:SegM w b n f) (hx:Ext w w'):SegM w' b n f:=by
 obtain ⟨D,hm,h1,h2⟩:=h
 have hlt:=hm.lt
 obtain ⟨es,clock,hb,F,hs,e⟩:=hm
 exact ⟨D,⟨es,clock,(hx.block b hlt).trans hb,F,hs,e⟩,h1,h2⟩
theorem guard_pl:Try.prog.eqGuardType Try.prog.depth 58=false:=by kernel_rfl
theorem eq_pl {a b:Pl} (ha:PRg a) (hb:PRg b) (w:World):(binOp .eql 58 (plV a) (plV b)).run Try.prog w=.ok (.bool (decide (a=b))) w:=by
 obtain ⟨r,hr,hi⟩:=run_equal_deep (P:=Try.prog) w (m:=2) (by decide) (k:=58) (by kernel_rfl) (by kernel_rfl) (keyOf_pl ha) (keyOf_pl hb)
 have e:r=decide (a=b):=by
  by_cases h:a=b
  ·rw [decide_eq_true h,hi,h]
  ·rw [decide_eq_false h]
   cases r with
   | false=>rfl
   | true=>exact absurd (kp_inj ha hb (hi.1 rfl)) h
 subst e
 unfold plV at hr ⊢
 rw [run_eql_struct]
 have h2:(Op.equalIn 10000 58 (.agg #[.int .i64 a.1,.int .i64 a.2]) (.agg #[.int .i64 b.1,.int .i64 b.2])).run Try.prog w=.ok (decide (a=b)) w:=hr
 rw [h2]
 rfl
def aloneF (f:Pl→Option Int) (By:List Pl) (a:Pl):Int:=match f a with
 | none=>0
 | some s=>if By.getD s.toNat (0,0)=a then 4 else if (By.getD s.toNat (0,0)).1=a.1 then 2 else 1
set_option maxRecDepth 100000 in
set_option maxHeartbeats 8000000 in
theorem alone_any (t0 t1 t2 t3 hold room age:Int) (nv sv rv fv:Value) (mb mn yb yo yn ycap p q:Nat) (f:Pl→Option Int) (By:List Pl) (w:World) (hm:SegM w mb mn f) (hy:PlAt w (.slice (some ⟨yb,yo,none⟩) yn ycap) By) (hyl:By.length=yn)
    (hfb:∀ a s,f a=some s→0≤s∧s < yn) (hbr:∀ b ∈ By,PRg b) (hp:p < 1000) (hq:q < 1000) :
    Calls Try.prog 41 #[(.agg #[.int .i64 t0,.int .i64 t1,.int .i64 t2,.int .i64 t3,.int .i64 hold,.int .i64 room,.int .i64 age,nv,sv,rv,fv,.map (some mb),.slice (some ⟨yb,yo,none⟩) yn ycap]),(.agg #[.int .i64 (p:Int),.int .i64 (q:Int)])] w fun e w'=>e=.returned (.int .i64 (aloneF f By ((p:Int),(q:Int))))∧Ext w w':=by
 have HSM:=Lib.hid hm
 have HPR:=Lib.hid (show PRg ((p:Int),(q:Int)) from by unfold PRg; simp only; omega)
 cases hfa:f ((p:Int),(q:Int)) with
 | none =>
  have HFA:=Lib.hid hfa
  have HAF:=Lib.hid (show aloneF f By ((p:Int),(q:Int))=0 from by unfold aloneF; rw [hfa])
  clear hm hy hyl hfb hbr hfa
  go_enter Try.func41,Try.ntmps41
  go_wp2_with (first
   | fail
   | ((with_reducible refine at_box 79 ?_); refine bx_row rfl 79 _ rfl #[.int .i64 t0,.int .i64 t1,.int .i64 t2,.int .i64 t3,.int .i64 hold,.int .i64 room,.int .i64 age,nv,sv,rv,fv,.map (some mb),.slice (some ⟨yb,yo,none⟩) yn ycap] rfl ?_
      intro X wa hX hsz hx1
      have HX1:=Lib.hid (show BoxAt wa X #[.int .i64 t0,.int .i64 t1,.int .i64 t2,.int .i64 t3,.int .i64 hold,.int .i64 room,.int .i64 age,nv,sv,rv,fv,.map (some mb),.slice (some ⟨yb,yo,none⟩) yn ycap] 79 from hX)
      have HE1:=Lib.hid hx1
      clear hX hsz hx1)
   | ((with_reducible refine at_box 58 ?_); refine bx_row rfl 58 _ rfl #[.int .i64 (p:Int),.int .i64 (q:Int)] rfl ?_
      intro Y wb hY hsz hx2
      have HY:=Lib.hid (show BoxAt wb Y #[.int .i64 (p:Int),.int .i64 (q:Int)] 58 from hY)
      have HX:=Lib.hid (HX1.out.ext hx2)
      have HE:=Lib.hid (HE1.out.trans hx2)
      have c1:wb.cell? ⟨X,11,none⟩=some (.map (some mb)):=HX.out.cell 11 rfl
      have hl:=(HSM.out.ext HE.out).look true HPR.out
      rw [HFA.out] at hl
      simp only [plV,Option.getD_none,Option.getD_some,Option.isSome_none,Option.isSome_some,if_true] at hl
      clear hY hsz hx2 HX1 HE1)
   | ((with_reducible refine at_load 58 ?_); refine wpList_load_row rfl 58 _ rfl Y rfl 58 #[.int .i64 (p:Int),.int .i64 (q:Int)] (0,0) _ HY.out Try.underlying58 rfl size_pl ?_))
  go_ret
  exact ⟨by rw [HAF.out]; rfl,HE.out⟩
 | some s0 =>
  obtain ⟨s,hs,rfl⟩:∃ s:Nat,s < yn∧s0=s:=by
   have:=hfb _ _ hfa
   exact ⟨s0.toNat,by omega,by omega⟩
  obtain ⟨pa,pcap,hpe,hpm,hpf⟩:=hy
  obtain ⟨pb,po,rfl,hpb,hpc,hpc2,hp4⟩:=hpf (by omega)
  simp only [Value.slice.injEq,Option.some.injEq,Addr.mk.injEq] at hpe
  obtain ⟨⟨rfl,rfl,-⟩,-,rfl⟩:=hpe
  have hr0:w.rangeAt yb (yo+s*2) (plL (By.getD s (0,0))):=hp4 s (by omega)
  have hbm:=hbr _ (getD_mem By s (by omega))
  rw [hyl] at hpc hpm
  have HAF:=Lib.hid (show aloneF f By ((p:Int),(q:Int))=if By.getD s (0,0)=((p:Int),(q:Int)) then 4 else if (By.getD s (0,0)).1=(p:Int) then 2 else 1 from by unfold aloneF; rw [hfa]; simp only [Int.toNat_natCast])
  obtain ⟨b,hb⟩:∃ b,By.getD s (0,0)=b:=⟨_,rfl⟩
  rw [hb] at hr0 hbm HAF
  have HFA:=Lib.hid hfa
  have HYB:=Lib.hid hpb
  have HBR:=Lib.hid (show w.rangeAt yb (yo+s*2) [.int .i64 b.1,.int .i64 b.2] from hr0)
  have hE:=eq_pl hbm HPR.out
  unfold plV at hE
  have hG:=guard_pl
  clear hm hyl hfb hbr hfa hpf hpb hp4 hr0 hbm hb
  by_cases h1:b=((p:Int),(q:Int))
  ·have HA2:=Lib.hid (show aloneF f By ((p:Int),(q:Int))=4 from by rw [HAF.out,if_pos h1])
   have d1:decide (b=((p:Int),(q:Int)))=true:=decide_eq_true h1
   rw [d1] at hE
   clear HAF h1 d1
   go_enter Try.func41,Try.ntmps41
   go_wp2_with (first
    | fail
    | ((with_reducible refine at_box 79 ?_); refine bx_row rfl 79 _ rfl #[.int .i64 t0,.int .i64 t1,.int .i64 t2,.int .i64 t3,.int .i64 hold,.int .i64 room,.int .i64 age,nv,sv,rv,fv,.map (some mb),.slice (some ⟨yb,yo,none⟩) yn ycap] rfl ?_
       intro X wa hX hsz hx1
       have HX1:=Lib.hid (show BoxAt wa X #[.int .i64 t0,.int .i64 t1,.int .i64 t2,.int .i64 t3,.int .i64 hold,.int .i64 room,.int .i64 age,nv,sv,rv,fv,.map (some mb),.slice (some ⟨yb,yo,none⟩) yn ycap] 79 from hX)
       have HE1:=Lib.hid hx1
       clear hX hsz hx1)
    | ((with_reducible refine at_box 58 ?_); refine bx_row rfl 58 _ rfl #[.int .i64 (p:Int),.int .i64 (q:Int)] rfl ?_
       intro Y wb hY hsz hx2
       have HY:=Lib.hid (show BoxAt wb Y #[.int .i64 (p:Int),.int .i64 (q:Int)] 58 from hY)
       have HX:=Lib.hid (HX1.out.ext hx2)
       have HE:=Lib.hid (HE1.out.trans hx2)
       have c1:wb.cell? ⟨X,11,none⟩=some (.map (some mb)):=HX.out.cell 11 rfl
       have hl:=(HSM.out.ext HE.out).look true HPR.out
       rw [HFA.out] at hl
       simp only [plV,Option.getD_none,Option.getD_some,Option.isSome_none,Option.isSome_some,if_true] at hl
       clear hY hsz hx2 HX1 HE1)
    | ((with_reducible refine at_load 58 ?_); refine wpList_load_row rfl 58 _ rfl Y rfl 58 #[.int .i64 (p:Int),.int .i64 (q:Int)] (0,0) _ HY.out Try.underlying58 rfl size_pl ?_))
   have HEL:=Lib.hid (Ext.refl wb)
   refine beginL (S:=fun W'=>Ext wb W') (by kernel_rfl) ?_
   intro wd hqx
   have hq0:Ext wb wd:=hqx
   refine tLp 0 ((.pointer (some ⟨X,12,none⟩))) rfl hq0 ?_
   simp only [ps]
   refine tL 1 (_) rfl (yieldsIf_cell rfl 39 _ rfl ⟨X,12,none⟩ rfl (.slice (some ⟨yb,yo,none⟩) yn ycap) _ (fun W' hW'=>(HX.out.ext (HEL.out.trans hW')).cell 12 rfl) Try.underlying39 rfl) hq0 ?_
   simp only [ps]
   refine tLp 2 ((.int .i64 (s:Int))) rfl hq0 ?_
   simp only [ps]
   refine tL 3 ((.pointer (some ⟨yb,yo+s*2,none⟩))) rfl (Or.inl ⟨rfl,fun W' _=>by go_simp <;> (intro h; omega)⟩) hq0 ?_
   simp only [ps]
   refine tL 4 (_) rfl (yieldsIf_load_mid rfl 58 _ rfl yb (yo+s*2) rfl ([.int .i64 b.1,.int .i64 b.2]) _ (fun W' hW'=>(rangeR_ext HBR.out (HE.out.trans (HEL.out.trans hW')) HYB.out)) Try.underlying58 rfl size_pl) hq0 ?_
   simp only [ps]
   refine tL 5 (_) rfl (yieldsIf_rowS rfl 58 _ rfl Y rfl #[.int .i64 (p:Int),.int .i64 (q:Int)] _ _ (fun W' hW'=>(HY.out.ext (HEL.out.trans hW'))) Try.underlying58 rfl size_pl) hq0 ?_
   simp only [ps]
   refine tL 6 ((.bool true)) rfl (Or.inl ⟨rfl,fun W' _=>by go_simp⟩) hq0 ?_
   simp only [ps]
   refine tLp 7 ((.bool true)) rfl hq0 ?_
   simp only [ps]
   refine wpAnyH_done (by kernel_rfl) ?_ _
   have HEF:=Lib.hid ((HE.out.trans HEL.out).trans hq0)
   go_wp2_with fail
   go_ret
   exact ⟨by rw [HA2.out]; rfl,HEF.out⟩
  ·have d1:decide (b=((p:Int),(q:Int)))=false:=decide_eq_false h1
   rw [d1] at hE
   rw [if_neg h1] at HAF
   clear h1 d1
   go_enter Try.func41,Try.ntmps41
   go_wp2_with (first
    | fail
    | ((with_reducible refine at_box 79 ?_); refine bx_row rfl 79 _ rfl #[.int .i64 t0,.int .i64 t1,.int .i64 t2,.int .i64 t3,.int .i64 hold,.int .i64 room,.int .i64 age,nv,sv,rv,fv,.map (some mb),.slice (some ⟨yb,yo,none⟩) yn ycap] rfl ?_
       intro X wa hX hsz hx1
       have HX1:=Lib.hid (show BoxAt wa X #[.int .i64 t0,.int .i64 t1,.int .i64 t2,.int .i64 t3,.int .i64 hold,.int .i64 room,.int .i64 age,nv,sv,rv,fv,.map (some mb),.slice (some ⟨yb,yo,none⟩) yn ycap] 79 from hX)
       have HE1:=Lib.hid hx1
       clear hX hsz hx1)
    | ((with_reducible refine at_box 58 ?_); refine bx_row rfl 58 _ rfl #[.int .i64 (p:Int),.int .i64 (q:Int)] rfl ?_
       intro Y wb hY hsz hx2
       have HY:=Lib.hid (show BoxAt wb Y #[.int .i64 (p:Int),.int .i64 (q:Int)] 58 from hY)
       have HX:=Lib.hid (HX1.out.ext hx2)
       have HE:=Lib.hid (HE1.out.trans hx2)
       have c1:wb.cell? ⟨X,11,none⟩=some (.map (some mb)):=HX.out.cell 11 rfl
       have hl:=(HSM.out.ext HE.out).look true HPR.out
       rw [HFA.out] at hl
       simp only [plV,Option.getD_none,Option.getD_some,Option.isSome_none,Option.isSome_some,if_true] at hl
       clear hY hsz hx2 HX1 HE1)
    | ((with_reducible refine at_load 58 ?_); refine wpList_load_row rfl 58 _ rfl Y rfl 58 #[.int .i64 (p:Int),.int .i64 (q:Int)] (0,0) _ HY.out Try.underlying58 rfl size_pl ?_))
   have HEL:=Lib.hid (Ext.refl wb)
   refine beginL (S:=fun W'=>Ext wb W') (by kernel_rfl) ?_
   intro wd hqx
   have hq0:Ext wb wd:=hqx
   refine tLp 0 ((.pointer (some ⟨X,12,none⟩))) rfl hq0 ?_
   simp only [ps]
   refine tL 1 (_) rfl (yieldsIf_cell rfl 39 _ rfl ⟨X,12,none⟩ rfl (.slice (some ⟨yb,yo,none⟩) yn ycap) _ (fun W' hW'=>(HX.out.ext (HEL.out.trans hW')).cell 12 rfl) Try.underlying39 rfl) hq0 ?_
   simp only [ps]
   refine tLp 2 ((.int .i64 (s:Int))) rfl hq0 ?_
   simp only [ps]
   refine tL 3 ((.pointer (some ⟨yb,yo+s*2,none⟩))) rfl (Or.inl ⟨rfl,fun W' _=>by go_simp <;> (intro h; omega)⟩) hq0 ?_
   simp only [ps]
   refine tL 4 (_) rfl (yieldsIf_load_mid rfl 58 _ rfl yb (yo+s*2) rfl ([.int .i64 b.1,.int .i64 b.2]) _ (fun W' hW'=>(rangeR_ext HBR.out (HE.out.trans (HEL.out.trans hW')) HYB.out)) Try.underlying58 rfl size_pl) hq0 ?_
   simp only [ps]
   refine tL 5 (_) rfl (yieldsIf_rowS rfl 58 _ rfl Y rfl #[.int .i64 (p:Int),.int .i64 (q:Int)] _ _ (fun W' hW'=>(HY.out.ext (HEL.out.trans hW'))) Try.underlying58 rfl size_pl) hq0 ?_
   simp only [ps]
   refine tL 6 ((.bool false)) rfl (Or.inl ⟨rfl,fun W' _=>by go_simp⟩) hq0 ?_
   simp only [ps]
   refine tLp 7 ((.bool false)) rfl hq0 ?_
   simp only [ps]
   refine wpAnyH_done (by kernel_rfl) ?_ _
   have HEM:=Lib.hid (HEL.out.trans hq0)
   rename World=>wx
   clear hq0 hqx
   go_wp2_with fail
   by_cases h2:b.1=(p:Int)
   ·have HA2:=Lib.hid (show aloneF f By ((p:Int),(q:Int))=2 from by rw [HAF.out,if_pos h2])
    have d2:decide (b.1=(p:Int))=true:=decide_eq_true h2
    have b2:(b.1 == (p:Int))=true:=by simpa using h2
    clear HAF
    refine beginL (S:=fun W'=>Ext wx W') (by kernel_rfl) ?_
    intro wd hqx
    have hq0:Ext wx wd:=hqx
    refine tLp 0 ((.pointer (some ⟨X,12,none⟩))) rfl hq0 ?_
    simp only [ps]
    refine tL 1 (_) rfl (yieldsIf_cell rfl 39 _ rfl ⟨X,12,none⟩ rfl (.slice (some ⟨yb,yo,none⟩) yn ycap) _ (fun W' hW'=>(HX.out.ext (HEM.out.trans hW')).cell 12 rfl) Try.underlying39 rfl) hq0 ?_
    simp only [ps]
    refine tLp 2 ((.int .i64 (s:Int))) rfl hq0 ?_
    simp only [ps]
    refine tL 3 ((.pointer (some ⟨yb,yo+s*2,none⟩))) rfl (Or.inl ⟨rfl,fun W' _=>by go_simp <;> (intro h; omega)⟩) hq0 ?_
    simp only [ps]
    refine tLp 4 ((.pointer (some ⟨yb,yo+s*2,none⟩))) rfl hq0 ?_
    simp only [ps]
    refine tL 5 (_) rfl (yieldsIf_cell rfl 3 _ rfl ⟨yb,yo+s*2,none⟩ rfl (.int .i64 b.1) _ (fun W' hW'=>((HE.out.trans (HEM.out.trans hW')).cell HYB.out).trans (range_one HBR.out (j:=0) rfl)) Try.underlying3 rfl) hq0 ?_
    simp only [ps]
    refine tLp 6 ((.pointer (some ⟨Y,0,none⟩))) rfl hq0 ?_
    simp only [ps]
    refine tL 7 (_) rfl (yieldsIf_cell rfl 3 _ rfl ⟨Y,0,none⟩ rfl (.int .i64 (p:Int)) _ (fun W' hW'=>(HY.out.ext (HEM.out.trans hW')).cell 0 rfl) Try.underlying3 rfl) hq0 ?_
    simp only [ps]
    refine tL 8 ((.bool true)) rfl (Or.inl ⟨rfl,fun W' _=>by go_simp⟩) hq0 ?_
    simp only [ps]
    refine tLp 9 ((.bool true)) rfl hq0 ?_
    simp only [ps]
    refine wpAnyH_done (by kernel_rfl) ?_ _
    have HEF:=Lib.hid ((HE.out.trans HEM.out).trans hq0)
    go_wp2_with fail
    go_ret
    exact ⟨by rw [HA2.out]; rfl,HEF.out⟩
   ·have HA2:=Lib.hid (show aloneF f By ((p:Int),(q:Int))=1 from by rw [HAF.out,if_neg h2])
    have d2:decide (b.1=(p:Int))=false:=decide_eq_false h2
    have b2:(b.1 == (p:Int))=false:=by simpa using h2
    clear HAF
    refine beginL (S:=fun W'=>Ext wx W') (by kernel_rfl) ?_
    intro wd hqx
    have hq0:Ext wx wd:=hqx
    refine tLp 0 ((.pointer (some ⟨X,12,none⟩))) rfl hq0 ?_
    simp only [ps]
    refine tL 1 (_) rfl (yieldsIf_cell rfl 39 _ rfl ⟨X,12,none⟩ rfl (.slice (some ⟨yb,yo,none⟩) yn ycap) _ (fun W' hW'=>(HX.out.ext (HEM.out.trans hW')).cell 12 rfl) Try.underlying39 rfl) hq0 ?_
    simp only [ps]
    refine tLp 2 ((.int .i64 (s:Int))) rfl hq0 ?_
    simp only [ps]
    refine tL 3 ((.pointer (some ⟨yb,yo+s*2,none⟩))) rfl (Or.inl ⟨rfl,fun W' _=>by go_simp <;> (intro h; omega)⟩) hq0 ?_
    simp only [ps]
    refine tLp 4 ((.pointer (some ⟨yb,yo+s*2,none⟩))) rfl hq0 ?_
    simp only [ps]
    refine tL 5 (_) rfl (yieldsIf_cell rfl 3 _ rfl ⟨yb,yo+s*2,none⟩ rfl (.int .i64 b.1) _ (fun W' hW'=>((HE.out.trans (HEM.out.trans hW')).cell HYB.out).trans (range_one HBR.out (j:=0) rfl)) Try.underlying3 rfl) hq0 ?_
    simp only [ps]
    refine tLp 6 ((.pointer (some ⟨Y,0,none⟩))) rfl hq0 ?_
    simp only [ps]
    refine tL 7 (_) rfl (yieldsIf_cell rfl 3 _ rfl ⟨Y,0,none⟩ rfl (.int .i64 (p:Int)) _ (fun W' hW'=>(HY.out.ext (HEM.out.trans hW')).cell 0 rfl) Try.underlying3 rfl) hq0 ?_
    simp only [ps]
    refine tL 8 ((.bool false)) rfl (Or.inl ⟨rfl,fun W' _=>by go_simp⟩) hq0 ?_
    simp only [ps]
    refine tLp 9 ((.bool false)) rfl hq0 ?_
    simp only [ps]
    refine wpAnyH_done (by kernel_rfl) ?_ _
    have HEF:=Lib.hid ((HE.out.trans HEM.out).trans hq0)
    go_wp2_with fail
    go_ret
    exact ⟨by rw [HA2.out]; rfl,HEF.out⟩
end Go.Proofs.Ytamnmjckhicapaa
namespace Go.Proofs.Ytamnmjckhicapaa
open Go.RowKit Go.BigFrame Go.WideShapes Go.ChangeShapes Go.Deep
set_option linter.unusedVariables false
set_option linter.unusedSimpArgs false
set_option maxRecDepth 100000
def nearP (N:List Nd) (D:List Way) (f:Pl→Option Int) (By:List Pl) (a b:Pl):Int :=
 orI [offerF N D (By.getD ((f a).getD 0).toNat (0,0)).1.toNat (By.getD ((f a).getD 0).toNat (0,0)).2.toNat (By.getD ((f b).getD 0).toNat (0,0)).1.toNat (By.getD ((f b).getD 0).toNat (0,0)).2.toNat (ptA N a.1.toNat a.2.toNat).cost.toNat (ptA N b.1.toNat b.2.toNat).cost.toNat,
  cmpI (ptA N a.1.toNat a.2.toNat).pid (ptA N b.1.toNat b.2.toNat).pid]
theorem costN {N:List Nd} (h:CostOk N) {p q:Nat} (hp:p < N.length) (hq:q < (N.getD p default).ports.length):∃ m:Nat,(ptA N p q).cost=m∧m < 4294967296:=by
 have h1:=costA_ok h (p:=((p:Int),(q:Int))) ⟨by simp,by simpa using hp,by simp,by simpa using hq⟩
 unfold costA at h1
 simp only [Int.toNat_natCast] at h1
 exact ⟨(ptA N p q).cost.toNat,by unfold ptA; omega,by unfold ptA; omega⟩
set_option maxRecDepth 100000 in
set_option maxHeartbeats 8000000 in
theorem nearer_any (t0 t1 t2 t3 hold room age:Int) (nb no n ncap gf mb mn yb yo yn ycap p q r s u v c1 d1 c2 d2:Nat) (sv rv:Value) (N:List Nd) (D:List Way) (f:Pl→Option Int) (By:List Pl) (w:World)
    (hN:NodesAt w (.slice (some ⟨nb,no,none⟩) n ncap) N) (hnl:N.length=n) (hn5:n≤5) (hD:WRow w gf D) (hdl:D.length=n) (hdc:∀ i,i < n→∃ x,D.getD i Option.none=Option.some x∧x.1 < 4294967296) (hco:CostOk N)
    (hm:SegM w mb mn f) (hy:PlAt w (.slice (some ⟨yb,yo,none⟩) yn ycap) By) (hyl:By.length=yn)
    (hp:p < n) (hq:q < (N.getD p default).ports.length) (hr:r < n) (hs:s < (N.getD r default).ports.length) (hq1:q < 1000) (hs1:s < 1000) (hfa:f ((p:Int),(q:Int))=some (u:Int)) (hfb:f ((r:Int),(s:Int))=some (v:Int)) (hu:u < yn) (hv:v < yn)
    (hbu:By.getD u (0,0)=((c1:Int),(d1:Int))) (hbv:By.getD v (0,0)=((c2:Int),(d2:Int))) (hc1:c1 < n∧d1 < (N.getD c1 default).ports.length) (hc2:c2 < n∧d2 < (N.getD c2 default).ports.length) :
    Calls Try.prog 42 #[(.agg #[.int .i64 t0,.int .i64 t1,.int .i64 t2,.int .i64 t3,.int .i64 hold,.int .i64 room,.int .i64 age,.slice (some ⟨nb,no,none⟩) n ncap,sv,rv,.slice (some ⟨gf,0,none⟩) n n,.map (some mb),.slice (some ⟨yb,yo,none⟩) yn ycap]),(.agg #[.int .i64 (p:Int),.int .i64 (q:Int)]),(.agg #[.int .i64 (r:Int),.int .i64 (s:Int)])] w fun e w'=>e=.returned (.int .i64 (nearP N D f By ((p:Int),(q:Int)) ((r:Int),(s:Int))))∧Ext w w':=by
 obtain ⟨i3,hi3,hz3,hs3,hb3⟩:=info_parts info_int
 have I3:=Lib.hid (And.intro hi3 (And.intro hz3 (And.intro hs3 hb3)))
 obtain ⟨ma,hma,hma2⟩:=costN hco (by rw [hnl]; exact hp) hq
 obtain ⟨mc,hmc,hmc2⟩:=costN hco (by rw [hnl]; exact hr) hs
 have hres:nearP N D f By ((p:Int),(q:Int)) ((r:Int),(s:Int))=orI [offerF N D c1 d1 c2 d2 ma mc,cmpI (ptA N p q).pid (ptA N r s).pid]:=by
  unfold nearP
  simp only [hfa,hfb,Option.getD_some,Int.toNat_natCast,hbu,hbv,hma,hmc]
 rw [hres]
 obtain ⟨pa,pcap,hpe,hpm,hpf⟩:=hy
 obtain ⟨pb,po,rfl,hpb,hpc,hpc2,hp4⟩:=hpf (by omega)
 simp only [Value.slice.injEq,Option.some.injEq,Addr.mk.injEq] at hpe
 obtain ⟨⟨rfl,rfl,-⟩,-,rfl⟩:=hpe
 have hru:w.rangeAt yb (yo+u*2) (plL (By.getD u (0,0))):=hp4 u (by omega)
 have hrv:w.rangeAt yb (yo+v*2) (plL (By.getD v (0,0))):=hp4 v (by omega)
 rw [hbu] at hru
 rw [hbv] at hrv
 rw [hyl] at hpc hpm
 have HBU:=Lib.hid (show w.rangeAt yb (yo+u*2) [.int .i64 (c1:Int),.int .i64 (d1:Int)] from hru)
 have HBW:=Lib.hid (show w.rangeAt yb (yo+v*2) [.int .i64 (c2:Int),.int .i64 (d2:Int)] from hrv)
 have HYB:=Lib.hid hpb
 have HSM:=Lib.hid hm
 have HFA:=Lib.hid hfa
 have HFB:=Lib.hid hfb
 have HPA:=Lib.hid (show PRg ((p:Int),(q:Int)) from by unfold PRg; simp only; omega)
 have HPB:=Lib.hid (show PRg ((r:Int),(s:Int)) from by unfold PRg; simp only; omega)
 have HN:=Lib.hid hN
 have HNL:=Lib.hid hnl
 have H5:=Lib.hid hn5
 have HD:=Lib.hid hD
 have HDL:=Lib.hid hdl
 have HDC:=Lib.hid hdc
 have HC1:=Lib.hid hc1
 have HC2:=Lib.hid hc2
 have HMA:=Lib.hid hma2
 have HMC:=Lib.hid hmc2
 have HPp:=Lib.hid hp
 have HPr:=Lib.hid hr
 have HQp:=Lib.hid hq
 have HQr:=Lib.hid hs
 have HCA:=Lib.hid (show ∀ W',NodesAt W' (.slice (some ⟨nb,no,none⟩) n ncap) N→Calls Try.prog 64 #[(.agg #[.int .i64 t0,.int .i64 t1,.int .i64 t2,.int .i64 t3,.int .i64 hold,.int .i64 room,.int .i64 age,.slice (some ⟨nb,no,none⟩) n ncap,sv,rv,.slice (some ⟨gf,0,none⟩) n n,.map (some mb),.slice (some ⟨yb,yo,none⟩) yn ycap]),(.agg #[.int .i64 (p:Int),.int .i64 (q:Int)])] W' fun e w'=>e=.returned (.int .u32 (ma:Int))∧Ext W' w' from fun W' h=>by
  have h2:=vcost_any t0 t1 t2 t3 hold room age nb no n ncap p q sv rv (.slice (some ⟨gf,0,none⟩) n n) (.map (some mb)) (.slice (some ⟨yb,yo,none⟩) yn ycap) N W' h HNL.out HPp.out HQp.out
  rw [show ((N.getD p default).ports.getD q default).cost=(ma:Int) from hma] at h2
  exact h2)
 have HCB:=Lib.hid (show ∀ W',NodesAt W' (.slice (some ⟨nb,no,none⟩) n ncap) N→Calls Try.prog 64 #[(.agg #[.int .i64 t0,.int .i64 t1,.int .i64 t2,.int .i64 t3,.int .i64 hold,.int .i64 room,.int .i64 age,.slice (some ⟨nb,no,none⟩) n ncap,sv,rv,.slice (some ⟨gf,0,none⟩) n n,.map (some mb),.slice (some ⟨yb,yo,none⟩) yn ycap]),(.agg #[.int .i64 (r:Int),.int .i64 (s:Int)])] W' fun e w'=>e=.returned (.int .u32 (mc:Int))∧Ext W' w' from fun W' h=>by
  have h2:=vcost_any t0 t1 t2 t3 hold room age nb no n ncap r s sv rv (.slice (some ⟨gf,0,none⟩) n n) (.map (some mb)) (.slice (some ⟨yb,yo,none⟩) yn ycap) N W' h HNL.out HPr.out HQr.out
  rw [show ((N.getD r default).ports.getD s default).cost=(mc:Int) from hmc] at h2
  exact h2)
 clear hi3 hz3 hs3 hb3 hN hnl hn5 hD hdl hdc hco hm hp4 hpf hpb hru hrv hyl hp hq hr hs hfa hfb hbu hbv hc1 hc2 hma hma2 hmc hmc2 hres
 go_enter Try.func42,Try.ntmps42
 go_wp2_with (first
  | fail
  | ((with_reducible refine at_box 79 ?_); refine bx_row rfl 79 _ rfl #[.int .i64 t0,.int .i64 t1,.int .i64 t2,.int .i64 t3,.int .i64 hold,.int .i64 room,.int .i64 age,.slice (some ⟨nb,no,none⟩) n ncap,sv,rv,.slice (some ⟨gf,0,none⟩) n n,.map (some mb),.slice (some ⟨yb,yo,none⟩) yn ycap] rfl ?_
     intro X w1 hX hsz hx1
     have HX1:=Lib.hid (show BoxAt w1 X #[.int .i64 t0,.int .i64 t1,.int .i64 t2,.int .i64 t3,.int .i64 hold,.int .i64 room,.int .i64 age,.slice (some ⟨nb,no,none⟩) n ncap,sv,rv,.slice (some ⟨gf,0,none⟩) n n,.map (some mb),.slice (some ⟨yb,yo,none⟩) yn ycap] 79 from hX)
     have HE1:=Lib.hid hx1
     clear hX hsz hx1)
  | ((with_reducible refine at_box 58 ?_); refine bx_row rfl 58 _ rfl #[.int .i64 (p:Int),.int .i64 (q:Int)] rfl ?_
     intro Y w2 hY hsz hx2
     have HY2:=Lib.hid (show BoxAt w2 Y #[.int .i64 (p:Int),.int .i64 (q:Int)] 58 from hY)
     have HX2:=Lib.hid (HX1.out.ext hx2)
     have HE2:=Lib.hid (HE1.out.trans hx2)
     clear hY hsz hx2)
  | ((with_reducible refine at_box 58 ?_); refine bx_row rfl 58 _ rfl #[.int .i64 (r:Int),.int .i64 (s:Int)] rfl ?_
     intro Z wb hZ hsz hx3
     have HZ:=Lib.hid (show BoxAt wb Z #[.int .i64 (r:Int),.int .i64 (s:Int)] 58 from hZ)
     have HX:=Lib.hid (HX2.out.ext hx3)
     have HY:=Lib.hid (HY2.out.ext hx3)
     have HE:=Lib.hid (HE2.out.trans hx3)
     clear hZ hsz hx3 HX1 HE1 HY2 HX2 HE2))
 have hlA:∀ W',Ext wb W'→(Instr.lookup 77 (.map (some mb)) (.agg #[.int .i64 (p:Int),.int .i64 (q:Int)]) false).run Try.prog W'=.ok (.int .i64 (u:Int)) W':=fun W' hW'=>by
  have h:=(HSM.out.ext (HE.out.trans hW')).look false HPA.out
  rw [HFA.out] at h
  exact h
 have hlB:∀ W',Ext wb W'→(Instr.lookup 77 (.map (some mb)) (.agg #[.int .i64 (r:Int),.int .i64 (s:Int)]) false).run Try.prog W'=.ok (.int .i64 (v:Int)) W':=fun W' hW'=>by
  have h:=(HSM.out.ext (HE.out.trans hW')).look false HPB.out
  rw [HFB.out] at h
  exact h
 have HLA:=Lib.hid hlA
 have HLB:=Lib.hid hlB
 clear hlA hlB
 refine beginL (S:=fun W'=>Ext wb W') (by kernel_rfl) ?_
 intro wd hqx
 have hq0:Ext wb wd:=hqx
 refine tL 0 (_) rfl (yieldsIf_rowS rfl 79 _ rfl X rfl #[.int .i64 t0,.int .i64 t1,.int .i64 t2,.int .i64 t3,.int .i64 hold,.int .i64 room,.int .i64 age,.slice (some ⟨nb,no,none⟩) n ncap,sv,rv,.slice (some ⟨gf,0,none⟩) n n,.map (some mb),.slice (some ⟨yb,yo,none⟩) yn ycap] _ _ (fun W' hW'=>(HX.out.ext hW')) Try.underlying79 rfl size_view) hq0 ?_
 simp only [ps]
 refine tLp 1 ((.pointer (some ⟨X,12,none⟩))) rfl hq0 ?_
 simp only [ps]
 refine tL 2 (_) rfl (yieldsIf_cell rfl 39 _ rfl ⟨X,12,none⟩ rfl (.slice (some ⟨yb,yo,none⟩) yn ycap) _ (fun W' hW'=>(HX.out.ext hW').cell 12 rfl) Try.underlying39 rfl) hq0 ?_
 simp only [ps]
 refine tLp 3 ((.pointer (some ⟨X,11,none⟩))) rfl hq0 ?_
 simp only [ps]
 refine tL 4 (_) rfl (yieldsIf_cell rfl 77 _ rfl ⟨X,11,none⟩ rfl (.map (some mb)) _ (fun W' hW'=>(HX.out.ext hW').cell 11 rfl) Try.underlying77 rfl) hq0 ?_
 simp only [ps]
 refine tL 5 (_) rfl (yieldsIf_rowS rfl 58 _ rfl Y rfl #[.int .i64 (p:Int),.int .i64 (q:Int)] _ _ (fun W' hW'=>(HY.out.ext hW')) Try.underlying58 rfl size_pl) hq0 ?_
 simp only [ps]
 refine tL 6 ((.int .i64 (u:Int))) rfl (Or.inl ⟨rfl,fun W' hW'=>by have hl:=HLA.out W' hW'; go_simp⟩) hq0 ?_
 simp only [ps]
 refine tL 7 ((.pointer (some ⟨yb,yo+u*2,none⟩))) rfl (Or.inl ⟨rfl,fun W' _=>by go_simp <;> (intro h; omega)⟩) hq0 ?_
 simp only [ps]
 refine tL 8 (_) rfl (yieldsIf_load_mid rfl 58 _ rfl yb (yo+u*2) rfl ([.int .i64 (c1:Int),.int .i64 (d1:Int)]) _ (fun W' hW'=>(rangeR_ext HBU.out (HE.out.trans hW') HYB.out)) Try.underlying58 rfl size_pl) hq0 ?_
 simp only [ps]
 refine tLp 9 ((.pointer (some ⟨X,12,none⟩))) rfl hq0 ?_
 simp only [ps]
 refine tL 10 (_) rfl (yieldsIf_cell rfl 39 _ rfl ⟨X,12,none⟩ rfl (.slice (some ⟨yb,yo,none⟩) yn ycap) _ (fun W' hW'=>(HX.out.ext hW').cell 12 rfl) Try.underlying39 rfl) hq0 ?_
 simp only [ps]
 refine tLp 11 ((.pointer (some ⟨X,11,none⟩))) rfl hq0 ?_
 simp only [ps]
 refine tL 12 (_) rfl (yieldsIf_cell rfl 77 _ rfl ⟨X,11,none⟩ rfl (.map (some mb)) _ (fun W' hW'=>(HX.out.ext hW').cell 11 rfl) Try.underlying77 rfl) hq0 ?_
 simp only [ps]
 refine tL 13 (_) rfl (yieldsIf_rowS rfl 58 _ rfl Z rfl #[.int .i64 (r:Int),.int .i64 (s:Int)] _ _ (fun W' hW'=>(HZ.out.ext hW')) Try.underlying58 rfl size_pl) hq0 ?_
 simp only [ps]
 refine tL 14 ((.int .i64 (v:Int))) rfl (Or.inl ⟨rfl,fun W' hW'=>by have hl:=HLB.out W' hW'; go_simp⟩) hq0 ?_
 simp only [ps]
 refine tL 15 ((.pointer (some ⟨yb,yo+v*2,none⟩))) rfl (Or.inl ⟨rfl,fun W' _=>by go_simp <;> (intro h; omega)⟩) hq0 ?_
 simp only [ps]
 refine tL 16 (_) rfl (yieldsIf_load_mid rfl 58 _ rfl yb (yo+v*2) rfl ([.int .i64 (c2:Int),.int .i64 (d2:Int)]) _ (fun W' hW'=>(rangeR_ext HBW.out (HE.out.trans hW') HYB.out)) Try.underlying58 rfl size_pl) hq0 ?_
 simp only [ps]
 refine tL 17 (_) rfl (yieldsIf_rowS rfl 79 _ rfl X rfl #[.int .i64 t0,.int .i64 t1,.int .i64 t2,.int .i64 t3,.int .i64 hold,.int .i64 room,.int .i64 age,.slice (some ⟨nb,no,none⟩) n ncap,sv,rv,.slice (some ⟨gf,0,none⟩) n n,.map (some mb),.slice (some ⟨yb,yo,none⟩) yn ycap] _ _ (fun W' hW'=>(HX.out.ext hW')) Try.underlying79 rfl size_view) hq0 ?_
 simp only [ps]
 refine tL 18 (_) rfl (yieldsIf_rowS rfl 58 _ rfl Y rfl #[.int .i64 (p:Int),.int .i64 (q:Int)] _ _ (fun W' hW'=>(HY.out.ext hW')) Try.underlying58 rfl size_pl) hq0 ?_
 simp only [ps]
 refine tL 20 (_) rfl (yieldsIf_rowS rfl 79 _ rfl X rfl #[.int .i64 t0,.int .i64 t1,.int .i64 t2,.int .i64 t3,.int .i64 hold,.int .i64 room,.int .i64 age,.slice (some ⟨nb,no,none⟩) n ncap,sv,rv,.slice (some ⟨gf,0,none⟩) n n,.map (some mb),.slice (some ⟨yb,yo,none⟩) yn ycap] _ _ (fun W' hW'=>(HX.out.ext hW')) Try.underlying79 rfl size_view) hq0 ?_
 simp only [ps]
 refine tL 21 (_) rfl (yieldsIf_rowS rfl 58 _ rfl Z rfl #[.int .i64 (r:Int),.int .i64 (s:Int)] _ _ (fun W' hW'=>(HZ.out.ext hW')) Try.underlying58 rfl size_pl) hq0 ?_
 simp only [ps]
 refine tL 24 (_) rfl (yieldsIf_rowS rfl 79 _ rfl X rfl #[.int .i64 t0,.int .i64 t1,.int .i64 t2,.int .i64 t3,.int .i64 hold,.int .i64 room,.int .i64 age,.slice (some ⟨nb,no,none⟩) n ncap,sv,rv,.slice (some ⟨gf,0,none⟩) n n,.map (some mb),.slice (some ⟨yb,yo,none⟩) yn ycap] _ _ (fun W' hW'=>(HX.out.ext hW')) Try.underlying79 rfl size_view) hq0 ?_
 simp only [ps]
 refine tL 25 (_) rfl (yieldsIf_rowS rfl 58 _ rfl Y rfl #[.int .i64 (p:Int),.int .i64 (q:Int)] _ _ (fun W' hW'=>(HY.out.ext hW')) Try.underlying58 rfl size_pl) hq0 ?_
 simp only [ps]
 refine tL 27 (_) rfl (yieldsIf_rowS rfl 79 _ rfl X rfl #[.int .i64 t0,.int .i64 t1,.int .i64 t2,.int .i64 t3,.int .i64 hold,.int .i64 room,.int .i64 age,.slice (some ⟨nb,no,none⟩) n ncap,sv,rv,.slice (some ⟨gf,0,none⟩) n n,.map (some mb),.slice (some ⟨yb,yo,none⟩) yn ycap] _ _ (fun W' hW'=>(HX.out.ext hW')) Try.underlying79 rfl size_view) hq0 ?_
 simp only [ps]
 refine tL 28 (_) rfl (yieldsIf_rowS rfl 58 _ rfl Z rfl #[.int .i64 (r:Int),.int .i64 (s:Int)] _ _ (fun W' hW'=>(HZ.out.ext hW')) Try.underlying58 rfl size_pl) hq0 ?_
 simp only [ps]
 refine runL (i:=19) rfl rfl (by kernel_rfl) (fun K hK=>?_)
 go_simp
 refine (HCA.out wd (HN.out.ext (HE.out.trans hq0))).mono ?_
 rintro e wc1 ⟨rfl,hx⟩
 have hq1:=hq0.trans hx
 refine hK.out _ _ hq1 (fun hHeld=>?_)
 try simp only [ps]
 clear hK K hHeld
 refine runL (i:=22) rfl rfl (by kernel_rfl) (fun K hK=>?_)
 go_simp
 refine (HCB.out wc1 (HN.out.ext (HE.out.trans hq1))).mono ?_
 rintro e wc2 ⟨rfl,hx⟩
 have hq2:=hq1.trans hx
 refine hK.out _ _ hq2 (fun hHeld=>?_)
 try simp only [ps]
 clear hK K hHeld
 refine runL (i:=23) rfl rfl (by kernel_rfl) (fun K hK=>?_)
 go_simp
 refine (offer_any t0 t1 t2 t3 hold room age nb no n ncap gf c1 d1 c2 d2 ma mc sv rv (.map (some mb)) (.slice (some ⟨yb,yo,none⟩) yn ycap) N D wc2 (HN.out.ext (HE.out.trans hq2)) HNL.out H5.out (HD.out.ext (HE.out.trans hq2)) HDL.out HC1.out.1 HC1.out.2 HC2.out.1 HC2.out.2 (HDC.out c1 HC1.out.1) (HDC.out c2 HC2.out.1) HMA.out HMC.out).mono ?_
 rintro e wc3 ⟨rfl,hx⟩
 have hq3:=hq2.trans hx
 refine hK.out _ _ hq3 (fun hHeld=>?_)
 try simp only [ps]
 clear hK K hHeld
 refine runL (i:=26) rfl rfl (by kernel_rfl) (fun K hK=>?_)
 go_simp
 refine (vport_any t0 t1 t2 t3 hold room age nb no n ncap p q sv rv (.slice (some ⟨gf,0,none⟩) n n) (.map (some mb)) (.slice (some ⟨yb,yo,none⟩) yn ycap) N wc3 (HN.out.ext (HE.out.trans hq3)) HNL.out HPp.out HQp.out).mono ?_
 rintro e wc4 ⟨rfl,hx⟩
 have hq4:=hq3.trans hx
 refine hK.out _ _ hq4 (fun hHeld=>?_)
 try simp only [ps]
 clear hK K hHeld
 refine runL (i:=29) rfl rfl (by kernel_rfl) (fun K hK=>?_)
 go_simp
 refine (vport_any t0 t1 t2 t3 hold room age nb no n ncap r s sv rv (.slice (some ⟨gf,0,none⟩) n n) (.map (some mb)) (.slice (some ⟨yb,yo,none⟩) yn ycap) N wc4 (HN.out.ext (HE.out.trans hq4)) HNL.out HPr.out HQr.out).mono ?_
 rintro e wc5 ⟨rfl,hx⟩
 have hq5:=hq4.trans hx
 refine hK.out _ _ hq5 (fun hHeld=>?_)
 try simp only [ps]
 clear hK K hHeld
 refine runL (i:=30) rfl rfl (by kernel_rfl) (fun K hK=>?_)
 go_simp
 refine (cmpu16_ext (ptA N p q).pid (ptA N r s).pid wc5).mono ?_
 rintro e wc6 ⟨rfl,hx⟩
 have hq6:=hq5.trans hx
 refine hK.out _ _ hq6 (fun hHeld=>?_)
 try simp only [ps]
 clear hK K hHeld
 refine runL (i:=31) rfl rfl (by kernel_rfl) (fun K hK=>?_)
 refine wp_buildSlice 56 3 2 _ rfl #[.int .i64 (offerF N D c1 d1 c2 d2 ma mc),.int .i64 (cmpI (ptA N p q).pid (ptA N r s).pid)] i3 (.int .i64 0) Try.underlying56 I3.out.1 I3.out.2.1 (by rw [I3.out.2.2.1]; decide) (by rw [I3.out.2.2.1]; decide) (by rw [I3.out.2.2.1]; kernel_rfl) ?_
 have hbs:=hq6.alloc (.cells #[.int .i64 (offerF N D c1 d1 c2 d2 ma mc),.int .i64 (cmpI (ptA N p q).pid (ptA N r s).pid)] 3)
 have hbn:=heap_alloc_new wc6 (.cells #[.int .i64 (offerF N D c1 d1 c2 d2 ma mc),.int .i64 (cmpI (ptA N p q).pid (ptA N r s).pid)] 3)
 refine hK.out _ _ hbs (fun _=>?_)
 try simp only [ps]
 clear hK K
 obtain ⟨wg,hwg⟩:∃ wg,wc6.alloc (.cells #[.int .i64 (offerF N D c1 d1 c2 d2 ma mc),.int .i64 (cmpI (ptA N p q).pid (ptA N r s).pid)] 3)=wg:=⟨_,rfl⟩
 obtain ⟨G,hG⟩:∃ G,wc6.heap.size=G:=⟨_,rfl⟩
 rw [hwg] at hbs hbn ⊢
 rw [hG] at hbn ⊢
 have HG:=Lib.hid (show Nums wg G [(offerF N D c1 d1 c2 d2 ma mc),(cmpI (ptA N p q).pid (ptA N r s).pid)] from ⟨_,hbn,fun i hi=>by
  match i,hi with
  | 0,_=>rfl
  | 1,_=>rfl⟩)
 clear hwg hG hbn
 refine runL (i:=32) rfl rfl (by kernel_rfl) (fun K hK=>?_)
 go_simp
 refine (or_ext G 2 [(offerF N D c1 d1 c2 d2 ma mc),(cmpI (ptA N p q).pid (ptA N r s).pid)] wg HG.out rfl (by decide)).mono ?_
 rintro e wc7 ⟨rfl,hx⟩
 have hq7:=hbs.trans hx
 refine hK.out _ _ hq7 (fun hHeld=>?_)
 try simp only [ps]
 clear hK K hHeld
 refine tLp 33 ((.int .i64 (orI [(offerF N D c1 d1 c2 d2 ma mc),(cmpI (ptA N p q).pid (ptA N r s).pid)]))) rfl hq7 ?_
 simp only [ps]
 refine wpAnyH_done (by kernel_rfl) ?_ _
 have HE3:=Lib.hid (HE.out.trans hq7)
 go_wp2_with fail
 go_ret
 exact ⟨rfl,HE3.out⟩
end Go.Proofs.Ytamnmjckhicapaa
namespace Go.Proofs.Ytamnmjckhicapaa
open Go.RowKit Go.BigFrame Go.WideShapes Go.ChangeShapes Go.Deep
set_option linter.unusedVariables false
set_option linter.unusedSimpArgs false
set_option maxRecDepth 100000
set_option maxRecDepth 100000 in
set_option maxHeartbeats 8000000 in
theorem minn_any (cf:Pl→Pl→Int) (n cap sb so:Nat) (S:List Pl) (w:World) (VV:Value) (hS:PlAt w (.slice (some ⟨sb,so,none⟩) n cap) S) (hn:S.length=n) (hn1:1≤n∧n≤60)
    (hc:∀ (a b:Pl) (w':World),a ∈ S→b ∈ S→Ext w w'→Calls Try.prog 42 #[VV,.agg #[.int .i64 a.1,.int .i64 a.2],.agg #[.int .i64 b.1,.int .i64 b.2]] w' fun e w''=>e=.returned (.int .i64 (cf a b))∧Ext w' w'') :
    Calls Try.prog 38 #[.slice (some ⟨sb,so,none⟩) n cap,.func (.func 42) #[VV] #[]] w fun e w'=>e=.returned (.agg #[.int .i64 (minF cf S).1,.int .i64 (minF cf S).2])∧Ext w w':=by
 obtain ⟨pa,pcap,hpe,hpm,hpf⟩:=hS
 obtain ⟨pb,po,rfl,hpb,hpc,hpc2,hp4⟩:=hpf (by omega)
 simp only [Value.slice.injEq,Option.some.injEq,Addr.mk.injEq] at hpe
 obtain ⟨⟨rfl,rfl,-⟩,-,rfl⟩:=hpe
 rw [hn] at hpc hpm
 have hr0:=hp4 0 (by omega)
 obtain ⟨s0,hs0⟩:∃ s0,S.getD 0 (0,0)=s0:=⟨_,rfl⟩
 have HMF:=Lib.hid (show minF cf S=minK cf S (n - 1) from by unfold minF; rw [hn])
 have HR0:=Lib.hid (show w.rangeAt sb so [.int .i64 s0.1,.int .i64 s0.2] from by
  have h:=hr0
  rw [Nat.zero_mul,Nat.add_zero] at h
  rw [← hs0]
  exact h)
 have HS0:=Lib.hid hs0
 have HSB:=Lib.hid hpb
 have H4:=Lib.hid hp4
 have HC:=Lib.hid hc
 have HN:=Lib.hid hn
 have hn2:=hn1.1
 have hn60:=hn1.2
 have HA0:=Lib.hid True.intro
 clear hr0 hs0 hpb hp4 hc hn hn1 hpf
 go_enter Try.func38,Try.ntmps38
 go_wp2_with (first
  | fail
  | ((with_reducible refine at_alloc 58 ?_); have:=HA0.out; clear HA0; refine al_zero rfl 58 rfl PZ2 zero_pl ?_
     intro R w1 hq hsz hx
     have HR1:=Lib.hid (show BoxAt w1 R PZ2 58 from hq)
     have HE1:=Lib.hid hx
     have HRW:=Lib.hid (show w.heap.size≤R from by omega)
     clear hq hsz hx)
  | ((with_reducible refine at_alloc 58 ?_); refine al_zero rfl 58 rfl PZ2 zero_pl ?_
     intro M w2 hq hsz hx
     have HM1:=Lib.hid hq
     have HR2:=Lib.hid (HR1.out.ext hx)
     have HE2:=Lib.hid (HE1.out.trans hx)
     have HMW:=Lib.hid (show w.heap.size≤M from by have:=HE1.out.size; omega)
     have HRM:=Lib.hid (show R ≠ M from by have:=heap_lt HR1.out; omega)
     clear hq hsz hx HE1)
  | ((with_reducible refine at_load 58 ?_); refine wpList_load_mid rfl 58 _ rfl sb so rfl [.int .i64 s0.1,.int .i64 s0.2] _ (rangeR_ext HR0.out HE1.out HSB.out) Try.underlying58 rfl size_pl ?_)
  | ((with_reducible refine at_store 58 ?_); refine st_at rfl rfl 58 _ _ rfl M 0 _ #[.int .i64 s0.1,.int .i64 s0.2] PZ2 #[.int .i64 s0.1,.int .i64 s0.2] 58 rfl rfl rfl HM1.out (by exact (by decide:0+2≤2)) (by kernel_rfl) rfl rfl ?_
     intro w3 hq hm
     have HM3:=Lib.hid hq
     have HR3:=Lib.hid (show BoxAt w3 R PZ2 58 from (hm.heap (heap_lt HR2.out) (fun h=>HRM.out h)).trans HR2.out)
     have HE3:=Lib.hid (HE2.out.mutE hm (fun j hj h=>by have h2:j=M:=h; have:=HMW.out; omega))
     clear hq hm HR1 HR2 HM1 HE2 w1 w2))
 go_loopw [6] (fun s wr=>∃ (k:Nat),s=.int .i64 ((k+1:Nat):Int)∧k+1≤n∧wr.heap[M]?=some (.cells #[.int .i64 (minK cf S k).1,.int .i64 (minK cf S k).2] 58 (0,0))∧BoxAt wr R PZ2 58∧Ext w wr) (fun s _=>n - (intOf s).toNat)
 case atStart=>exact ⟨0,rfl,by omega,by rw [show minK cf S 0=s0 from HS0.out]; exact HM3.out,HR3.out,HE3.out⟩
 case round =>
  obtain ⟨k,rfl,hk,hm,hr,hx⟩:=hrel
  rename World=>wl
  have HR:=Lib.hid hr
  have HXL:=Lib.hid hx
  have HMK:=Lib.hid (show ∀ j,j≤k→minK cf S j ∈ S from fun j hj=>minK_mem cf S j (by rw [HN.out]; omega))
  obtain ⟨m,hmk⟩:∃ m,minK cf S k=m:=⟨_,rfl⟩
  have HMS:=Lib.hid (show m ∈ S from by rw [← hmk]; exact HMK.out k (Nat.le_refl _))
  rw [hmk] at hm
  have HM:=Lib.hid hm
  clear hm hr hx HM3 HR3 HE3 HMK
  by_cases hlt:k+1 < n
  ·have dlt:decide (((k+1:Nat):Int) < (n:Int))=true:=by simp; omega
   have hup:IntKind.i64.wrap (((k+1:Nat):Int)+1)=((k+1+1:Nat):Int):=by rw [IntKind.wrap_i64]; omega
   have hra:w.rangeAt sb (so+(k+1)*2) (plL (S.getD (k+1) (0,0))):=H4.out (k+1) (by rw [HN.out]; exact hlt)
   have hlk:k+1 < S.length:=by rw [HN.out]; exact hlt
   have HSA:=Lib.hid (show S.getD (k+1) (0,0) ∈ S from by
    rw [List.getD_eq_getElem?_getD,List.getElem?_eq_getElem hlk]
    exact List.getElem_mem hlk)
   obtain ⟨a,ha⟩:∃ a,S.getD (k+1) (0,0)=a:=⟨_,rfl⟩
   have HST:=Lib.hid (show minK cf S (k+1)=if cf a m < 0 then a else m from by rw [← ha,← hmk]; rfl)
   rw [ha] at hra HSA
   have HAS:=HSA
   have RS:=Lib.hid (show wl.rangeAt sb (so+(k+1)*2) [.int .i64 a.1,.int .i64 a.2] from rangeR_ext hra HXL.out HSB.out)
   have HSW:=HSB
   have HSB:=Lib.hid (show sb < wl.heap.size from Nat.lt_of_lt_of_le HSW.out HXL.out.size)
   clear hra ha hmk hlk
   by_cases hz0:cf a m < 0
   ·have dz:decide (cf a m < 0)=true:=by simpa using hz0
    have HS1:=Lib.hid (show minK cf S (k+1)=a from by rw [HST.out,if_pos hz0])
    clear HST
    go_wp2_with fail
    refine beginL (S:=fun W'=>Ext wl W') (by kernel_rfl) ?_
    intro wd hqx
    have hq0:Ext wl wd:=hqx
    refine tLp 0 (.func (.func 42) #[VV] #[]) rfl hq0 ?_
    simp only [ps]
    refine tLp 1 ((.slice (some ⟨sb,so,none⟩) n cap)) rfl hq0 ?_
    simp only [ps]
    refine tLp 2 ((.int .i64 ((k+1:Nat):Int))) rfl hq0 ?_
    simp only [ps]
    refine tL 3 ((.pointer (some ⟨sb,so+(k+1)*2,none⟩))) rfl (Or.inl ⟨rfl,fun W' _=>by go_simp <;> (intro h; omega)⟩) hq0 ?_
    simp only [ps]
    refine tL 4 (_) rfl (yieldsIf_load_mid rfl 58 _ rfl sb (so+(k+1)*2) rfl ([.int .i64 a.1,.int .i64 a.2]) _ (fun W' hW'=>(rangeR_ext RS.out hW' HSB.out)) Try.underlying58 rfl size_pl) hq0 ?_
    simp only [ps]
    refine tL 5 (_) rfl (yieldsIf_rowS rfl 58 _ rfl M rfl #[.int .i64 m.1,.int .i64 m.2] _ _ (fun W' hW'=>((hW'.block M (heap_lt HM.out)).trans HM.out)) Try.underlying58 rfl size_pl) hq0 ?_
    simp only [ps]
    refine runL (i:=6) rfl rfl (by kernel_rfl) (fun K hK=>?_)
    go_simp
    refine (HC.out a m wd HAS.out HMS.out (HXL.out.trans hq0)).mono ?_
    rintro e wc1 ⟨rfl,hx⟩
    have hq1:=hq0.trans hx
    refine hK.out _ _ hq1 (fun hHeld=>?_)
    try simp only [ps]
    clear hK K hHeld
    refine tL 7 ((.bool true)) rfl (Or.inl ⟨rfl,fun W' _=>by go_simp⟩) hq1 ?_
    simp only [ps]
    refine wpAnyH_done (by kernel_rfl) ?_ _
    have HM5:=Lib.hid ((hq1.block M (heap_lt HM.out)).trans HM.out)
    have HR5:=Lib.hid (HR.out.ext hq1)
    have HX5:=Lib.hid (HXL.out.trans hq1)
    have RS5:=Lib.hid (rangeR_ext RS.out hq1 HSB.out)
    go_wp2_with (first
     | fail
     | ((with_reducible refine at_load 58 ?_); refine wpList_load_mid rfl 58 _ rfl sb (so+(k+1)*2) rfl [.int .i64 a.1,.int .i64 a.2] _ RS5.out Try.underlying58 rfl size_pl ?_)
     | ((with_reducible refine at_store 58 ?_); refine st_at rfl rfl 58 _ _ rfl M 0 _ #[.int .i64 a.1,.int .i64 a.2] #[.int .i64 m.1,.int .i64 m.2] #[.int .i64 a.1,.int .i64 a.2] 58 rfl rfl rfl HM5.out (by exact (by decide:0+2≤2)) (by kernel_rfl) rfl rfl ?_
        intro w7 hq7 hm7
        have HM7:=Lib.hid hq7
        have HR7:=Lib.hid (show BoxAt w7 R PZ2 58 from (hm7.heap (heap_lt HR5.out) (fun h=>HRM.out h)).trans HR5.out)
        have HX7:=Lib.hid (HX5.out.mutE hm7 (fun j hj h=>by have h2:j=M:=h; have:=HMW.out; omega))
        clear hq7 hm7))
    go_roundw
    case rel=>exact ⟨k+1,by go_num,by omega,by rw [HS1.out]; exact HM7.out,HR7.out,HX7.out⟩
    case measure=>simp [intOf] <;> omega
   ·have dz:decide (cf a m < 0)=false:=by simpa using hz0
    have HS1:=Lib.hid (show minK cf S (k+1)=m from by rw [HST.out,if_neg hz0])
    clear HST
    go_wp2_with fail
    refine beginL (S:=fun W'=>Ext wl W') (by kernel_rfl) ?_
    intro wd hqx
    have hq0:Ext wl wd:=hqx
    refine tLp 0 (.func (.func 42) #[VV] #[]) rfl hq0 ?_
    simp only [ps]
    refine tLp 1 ((.slice (some ⟨sb,so,none⟩) n cap)) rfl hq0 ?_
    simp only [ps]
    refine tLp 2 ((.int .i64 ((k+1:Nat):Int))) rfl hq0 ?_
    simp only [ps]
    refine tL 3 ((.pointer (some ⟨sb,so+(k+1)*2,none⟩))) rfl (Or.inl ⟨rfl,fun W' _=>by go_simp <;> (intro h; omega)⟩) hq0 ?_
    simp only [ps]
    refine tL 4 (_) rfl (yieldsIf_load_mid rfl 58 _ rfl sb (so+(k+1)*2) rfl ([.int .i64 a.1,.int .i64 a.2]) _ (fun W' hW'=>(rangeR_ext RS.out hW' HSB.out)) Try.underlying58 rfl size_pl) hq0 ?_
    simp only [ps]
    refine tL 5 (_) rfl (yieldsIf_rowS rfl 58 _ rfl M rfl #[.int .i64 m.1,.int .i64 m.2] _ _ (fun W' hW'=>((hW'.block M (heap_lt HM.out)).trans HM.out)) Try.underlying58 rfl size_pl) hq0 ?_
    simp only [ps]
    refine runL (i:=6) rfl rfl (by kernel_rfl) (fun K hK=>?_)
    go_simp
    refine (HC.out a m wd HAS.out HMS.out (HXL.out.trans hq0)).mono ?_
    rintro e wc1 ⟨rfl,hx⟩
    have hq1:=hq0.trans hx
    refine hK.out _ _ hq1 (fun hHeld=>?_)
    try simp only [ps]
    clear hK K hHeld
    refine tL 7 ((.bool false)) rfl (Or.inl ⟨rfl,fun W' _=>by go_simp⟩) hq1 ?_
    simp only [ps]
    refine wpAnyH_done (by kernel_rfl) ?_ _
    have HM5:=Lib.hid ((hq1.block M (heap_lt HM.out)).trans HM.out)
    have HR5:=Lib.hid (HR.out.ext hq1)
    have HX5:=Lib.hid (HXL.out.trans hq1)
    go_wp2_with fail
    go_roundw
    case rel=>exact ⟨k+1,by go_num,by omega,by rw [HS1.out]; exact HM5.out,HR5.out,HX5.out⟩
    case measure=>simp [intOf] <;> omega
  ·have dlt:decide (((k+1:Nat):Int) < (n:Int))=false:=by simp; omega
   have HKN:=Lib.hid (show minF cf S=m from by rw [HMF.out,← hmk,show n - 1=k by omega])
   clear hmk
   go_wp2_with (first
    | fail
    | ((with_reducible refine at_load 58 ?_); refine wpList_load_row rfl 58 _ rfl M rfl 58 #[.int .i64 m.1,.int .i64 m.2] (0,0) _ HM.out Try.underlying58 rfl size_pl ?_)
    | ((with_reducible refine at_store 58 ?_); refine st_at rfl rfl 58 _ _ rfl R 0 _ #[.int .i64 m.1,.int .i64 m.2] PZ2 #[.int .i64 m.1,.int .i64 m.2] 58 rfl rfl rfl HR.out (by exact (by decide:0+2≤2)) (by kernel_rfl) rfl rfl ?_
       intro w7 hq7 hm7
       have HR7:=Lib.hid hq7
       have HX7:=Lib.hid (HXL.out.mutE hm7 (fun j hj h=>by have h2:j=R:=h; have:=HRW.out; omega))
       clear hq7 hm7))
   refine bodyPost_ret (results_cell_row rfl _ _ R _ _ (0,0) _ rfl HR7.out Try.underlying58 rfl size_pl) rfl ?_
   exact ⟨by rw [HKN.out],HX7.out⟩
end Go.Proofs.Ytamnmjckhicapaa
namespace Go.Proofs.Ytamnmjckhicapaa
open Go.RowKit Go.BigFrame Go.WideShapes Go.ChangeShapes Go.Deep
set_option linter.unusedVariables false
set_option linter.unusedSimpArgs false
set_option maxRecDepth 100000
def flatP (l:List Pl):List Value:=l.flatMap plL
theorem flatP_cons (h:Pl) (l:List Pl):flatP (h :: l)=plL h ++ flatP l:=by simp [flatP]
theorem flatP_len:∀ l:List Pl,(flatP l).length=l.length*2
 | []=>rfl
 | h :: l=>by
  rw [flatP_cons,List.length_append,flatP_len l,List.length_cons]
  show 2+l.length*2=_
  omega
theorem flatP_snoc (l:List Pl) (h:Pl):flatP (l ++ [h])=flatP l ++ plL h:=by simp [flatP]
theorem flatP_at:∀ (l:List Pl) (i j:Nat),i < l.length→j < 2→(flatP l)[i*2+j]?=(plL (l.getD i (0,0)))[j]?
 | [],i,j,hi,_=>by simp at hi
 | x :: l,0,j,_,hj=>by
  rw [flatP_cons,Nat.zero_mul,Nat.zero_add,List.getElem?_append_left (by show j < 2; exact hj)]
  rfl
 | x :: l,i+1,j,hi,hj=>by
  have e:(plL x).length=2:=rfl
  rw [flatP_cons,List.getElem?_append_right (by rw [e]; omega),e,show (i+1)*2+j - 2=i*2+j by omega]
  exact flatP_at l i j (by simpa using hi) hj
theorem PlAt.own {w:World} {base:Nat} {v:Value} {L:List Pl} (h:w.ownsRow base 58 2 v L.length (flatP L)) (hL:L.length≤1000):PlAt w v L:=by
 obtain ⟨a,cap,rfl⟩:=own_form2 h
 refine ⟨a,cap,rfl,by omega,fun h0=>?_⟩
 rcases h.2 with ⟨e,e2⟩ | ⟨g,cap2,cur,e,hb,hg,hn,hm,hs,ht⟩
 ·omega
 ·cases e
  refine ⟨g,0,rfl,heap_lt hg,hn,by unfold maxLen at hm; omega,fun i hi j v hv=>?_⟩
  have hj:j < 2:=by
   have:=(List.getElem?_eq_some_iff.1 hv).1
   exact this
  have h2:=own_range h (i*2+j) v (by rw [flatP_at L i j hi hj]; exact hv)
  rw [Nat.zero_add] at h2 ⊢
  exact h2
theorem own_kept {w w':World} {base m n:Nat} {e:TypeId} {v:Value} {xs:List Value} {row:Option Nat} (h:w.ownsRow base e m v n xs) (hg:w.grownBy w' row) (hne:∀ g,v.ownBlock=some g→row ≠ some g):w'.ownsRow base e m v n xs:=by
 refine ⟨h.1,?_⟩
 rcases h.2 with hn | ⟨g,cap,cur,rfl,hb,hgb,rest⟩
 ·exact .inl hn
 ·exact .inr ⟨g,cap,cur,rfl,hb,(hg.block g (heap_lt hgb) (fun e=>hne g rfl e.symm)).trans hgb,rest⟩
theorem ints_form {w:World} {base n:Nat} {v:Value} {ss:List Int} (h:w.ownsRow base 3 1 v n (iv ss)) (hn:n=ss.length) (h1:1≤n):∃ g cap,v=.slice (some ⟨g,0,none⟩) n cap∧base≤g∧n≤cap∧Nums w g ss:=by
 rcases h.2 with ⟨rfl,e2⟩ | ⟨g,cap,cur,rfl,hb,hg,h2,h3,h4,h5⟩
 ·omega
 ·obtain ⟨p1,p2,p3⟩:=nums_own h hn
  exact ⟨g,cap,rfl,p2,p3,p1⟩
theorem info_pl:(Try.prog.info? 58).map (fun i=>(i.zero,i.size,i.bytes))=some (some (.agg PZ2),2,16):=by kernel_rfl
def alK (f:Pl→Option Int) (By:List Pl) (i k:Nat):Int:=aloneF f By ((i:Int),(k:Int))
def alL (f:Pl→Option Int) (By:List Pl) (i k:Nat):List Int:=(List.range k).map (alK f By i)
def waL (f:Pl→Option Int) (By:List Pl) (i k:Nat):List Pl:=((List.range k).filter (fun j:Nat=>alK f By i j == 1)).map (fun j:Nat=>(((i:Int),(j:Int)):Pl))
theorem alL_len (f:Pl→Option Int) (By:List Pl) (i k:Nat):(alL f By i k).length=k:=by simp [alL]
theorem alL_snoc (f:Pl→Option Int) (By:List Pl) (i k:Nat):alL f By i (k+1)=alL f By i k ++ [alK f By i k]:=by simp [alL,List.range_succ]
theorem waL_snoc (f:Pl→Option Int) (By:List Pl) (i k:Nat):waL f By i (k+1)=waL f By i k ++ if alK f By i k=1 then [((i:Int),(k:Int))] else []:=by
 unfold waL
 rw [List.range_succ,List.filter_append,List.map_append]
 congr 1
 by_cases h:alK f By i k=1
 ·have hb:(alK f By i k == 1)=true:=by simpa using h
  simp [List.filter,h]
 ·have hb:(alK f By i k == 1)=false:=by simpa using h
  simp [List.filter,h,hb]
theorem waL_len (f:Pl→Option Int) (By:List Pl) (i k:Nat):(waL f By i k).length≤k:=by
 unfold waL
 rw [List.length_map]
 exact Nat.le_trans (List.length_filter_le _ _) (by simp)
theorem waL_mem {f:Pl→Option Int} {By:List Pl} {i k:Nat} {a:Pl} (h:a ∈ waL f By i k):∃ j:Nat,j < k∧a=((i:Int),(j:Int))∧∃ s,f a=some s:=by
 unfold waL at h
 obtain ⟨j,hj,rfl⟩:=List.mem_map.1 h
 obtain ⟨h1,h2⟩:=List.mem_filter.1 hj
 refine ⟨j,by simpa using h1,rfl,?_⟩
 have h3:aloneF f By ((i:Int),(j:Int))=1:=by simpa [alK] using h2
 unfold aloneF at h3
 cases hf:f ((i:Int),(j:Int)) with
 | none=>rw [hf] at h3; cases h3
 | some s=>exact ⟨s,rfl⟩
def roleF (N:List Nd) (D:List Way) (R:List Int) (f:Pl→Option Int) (By:List Pl) (i:Nat):List Int :=
 let np:=(N.getD i default).ports.length
 if ¬ at0 R i=i∧0 < (waL f By i np).length then (alL f By i np).set (minF (nearP N D f By) (waL f By i np)).2.toNat 3 else alL f By i np
end Go.Proofs.Ytamnmjckhicapaa
