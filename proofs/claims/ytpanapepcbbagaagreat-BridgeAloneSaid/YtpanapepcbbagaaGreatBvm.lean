/- Part 13 of what BridgeRests stands on. No statement is proved here. -/
import Derived.Deep.DeepCutAuto
import Derived.Maps.Own
import Derived.Maps.Views
import Derived.Test.YtpanapepcbbagaaGreatBvh
import Derived.Test.YtpanapepcbbagaaGreatBvl
set_option linter.unusedVariables false
set_option linter.unusedSimpArgs false
set_option maxRecDepth 100000
set_option maxHeartbeats 8000000
namespace Go.Proofs.YtpanapepcbbagaaGreat
open Go.RowKit Go.BigFrame Go.WideShapes Go.ChangeShapes Go.Deep
def gE(k:Nat):FuncId:=match k with|0=>140|1=>141|2=>142|3=>143|_=>144
def Rf(v:Value):Option (DataW Unit × List MemPlace):=match v with|.func (.func f) xs ys=>if xs.size=0∧ys.size=0 then some (.lit (.int .i64 (f:Nat)),[])else none|.nilFunc=>some (.lit (.int .i64 (-1)),[])|_=>none
theorem aLA(k:Nat):Rf (.func (.func (gE k)) #[] #[])=some (.lit (.int .i64 (gE k:Nat)),[]):=rfl
theorem aJD{v:Value}{k:Nat}{ps:List MemPlace}(h:Rf v=some (.lit (.int .i64 (gE k:Nat)),ps)):v=.func (.func (gE k)) #[] #[]:=by
 unfold Rf at h
 split at h
 ·rename_i f xs ys
  split at h
  ·rename_i hz
   simp only[Option.some.injEq,Prod.mk.injEq,DataW.lit.injEq,Lit.int.injEq,true_and]at h
   have e:f=gE k:=by
    have:=h.1
    exact Int.ofNat.inj this
   rw[e,Array.eq_empty_of_size_eq_zero hz.1,Array.eq_empty_of_size_eq_zero hz.2]
  ·cases h
 ·simp only[Option.some.injEq,Prod.mk.injEq,DataW.lit.injEq,Lit.int.injEq,true_and]at h
  have:=h.1
  omega
 ·cases h
theorem sL:Tryz.prog.underlying 3=some (.int .i64):=Tryz.underlying3
theorem uC:Maps.Keyed Tryz.prog 3:=Maps.int_keyed sL
theorem nilf(w:World):(zeroValue 144).run Tryz.prog w=.ok .nilFunc w:=by kernel_rfl
def aDY(w0 w:World)(b n:Nat)(listed:Array Bool):Prop :=
 w0.heap.size≤b∧∃D:DataW Unit,w.ownsMap Tryz.prog 3 Rf b n D∧∀k:Nat,k<5→listed.getD (k+1) false=true→D.atKey (.int .i64 (k:Nat)) (.lit (.int .i64 (-1)))=.lit (.int .i64 (gE k:Nat))
def aBB(listed:Array Bool):Nat:=(listed.getD 1 false).toNat+(listed.getD 2 false).toNat+(listed.getD 3 false).toNat+(listed.getD 4 false).toNat+(listed.getD 5 false).toNat
structure TakeI (w0:World) (G o H0:Nat) (L L':List Value) (rst:Bool) (c:Nat) (listed:Array Bool) (V:Nat→Value) (w:World):Prop where
 row:w.heap[H0]?=some (.cells #[.pointer (some ⟨G,o,none⟩),.bool rst] 110 (0,0))
 pre:listed.getD 14 false=false→Pv w G o L∧Ext w0 w
 post:listed.getD 14 false=true→Pv w G o L'∧Pm G o w0 w
 map:listed.getD 0 false=true→listed.getD 14 false=false→∃b n,V 0=.map (some b)∧n≤aBB listed∧aDY w0 w b n listed
 v6:listed.getD 6 false=true→V 6=V 0
 v7:listed.getD 7 false=true→V 7=.pointer (some ⟨H0,0,none⟩)
 v8:listed.getD 8 false=true→V 8=.pointer (some ⟨G,o,none⟩)
 v9:listed.getD 9 false=true→V 9=.pointer (some ⟨G,o,none⟩)
 v10:listed.getD 10 false=true→V 10=.agg L.toArray
 v11:listed.getD 11 false=true→V 11=.int .i64 c
 v12:listed.getD 12 false=true→V 12=.func (.func (gE c)) #[] #[]
 v13:listed.getD 13 false=true→V 13=.agg #[.pointer (some ⟨G,o,none⟩),.bool rst]
theorem TakeI.pure{w0:World}{G o H0:Nat}{L L':List Value}{rst:Bool}{c:Nat}{listed:Array Bool}{V:Nat→Value}{w:World}(h:TakeI w0 G o H0 L L' rst c listed V w){i:Nat}(hi:i<listed.size)(hu:listed.getD i false=false)(v:Value)(hz:i≠0)(h5:5<i)(h14:i≠14)(hv:(i=6→v=V 0)∧(i=7→v=.pointer (some ⟨H0,0,none⟩))∧(i=8→v=.pointer (some ⟨G,o,none⟩))∧(i=9→v=.pointer (some ⟨G,o,none⟩))∧(i=10→v=.agg L.toArray)∧(i=11→v=.int .i64 c)∧(i=12→v=.func (.func (gE c)) #[] #[])∧(i=13→v=.agg #[.pointer (some ⟨G,o,none⟩),.bool rst])):
    TakeI w0 G o H0 L L' rst c (listed.setIfInBounds i true) (fun j=>if j=i then v else V j) w:=by
 obtain⟨e6,e7,e8,e9,e10,e11,e12,e13⟩:=hv
 have keep:∀j,j≠i→(listed.setIfInBounds i true).getD j false=listed.getD j false:=fun j hj=>getD_set_ne false (Ne.symm hj)
 have one:∀(j:Nat) (x:Value),(i=j→v=x)→(listed.getD j false=true→V j=x)→(listed.setIfInBounds i true).getD j false=true→(if j=i then v else V j)=x:=fun j x h1 h2 hl=>by
  by_cases e:j=i
  ·rw[if_pos e];exact h1 e.symm
  ·rw[if_neg e];exact h2 (by rw[←keep j e];exact hl)
 refine⟨h.row,fun hl=>h.pre (by rw[←keep 14 (Ne.symm h14)];exact hl),fun hl=>h.post (by rw[←keep 14 (Ne.symm h14)];exact hl),fun hl hl2=>?_,?_,one 7 _ e7 h.v7,one 8 _ e8 h.v8,one 9 _ e9 h.v9,one 10 _ e10 h.v10,one 11 _ e11 h.v11,one 12 _ e12 h.v12,one 13 _ e13 h.v13⟩
 ·obtain ⟨b,n,hb,hn,h0,D,hD,hk⟩:=h.map (by rw[←keep 0 (Ne.symm hz)];exact hl) (by rw[←keep 14 (Ne.symm h14)];exact hl2)
  refine⟨b,n,?_,?_,h0,D,hD,fun k hk5 hl3=>hk k hk5 (by rw[←keep (k+1) (by omega)];exact hl3)⟩
  ·show(if 0=i then v else V 0)=_
   rw[if_neg (Ne.symm hz)];exact hb
  ·unfold aBB at hn ⊢
   rw[keep 1 (by omega),keep 2 (by omega),keep 3 (by omega),keep 4 (by omega),keep 5 (by omega)]
   exact hn
 ·intro hl
  show(if 6=i then v else V 6)=(if 0=i then v else V 0)
  rw[if_neg (Ne.symm hz)]
  exact one 6 _ e6 h.v6 hl
theorem aGJ{w0 w w':World}{b n:Nat}{listed:Array Bool}(h:aDY w0 w b n listed)(hx:Ext w w'):aDY w0 w' b n listed:=by
 obtain⟨h0,D,⟨es,clock,hb,hF,hs,hD⟩,hk⟩:=h
 exact⟨h0,D,⟨es,clock,(hx.block _ (aC hb)).trans hb,hF,hs,hD⟩,hk⟩
theorem aGK{w0 w:World}{b n:Nat}{listed:Array Bool}(h:aDY w0 w b n listed)(hn:n<100)(k:Nat)(hk:k<5)(hi:k+1<listed.size):
    ∃w',(Instr.mapUpdate 145 (.map (some b)) (.int .i64 (k:Nat)) (.func (.func (gE k)) #[] #[])).run Tryz.prog w=.ok () w'∧aDY w0 w' b (n+1) (listed.setIfInBounds (k+1) true)∧w.grownBy w' (some b):=by
 obtain⟨h0,D,hD,hkeys⟩:=h
 have hm:Maps.IsMap D:=by
  obtain⟨es,clock,hb,hF,hs,rfl⟩:=hD
  exact⟨_,rfl⟩
 obtain⟨w',hrun,hD',hg⟩:=hD.update (t:=145) (e:=144) uC Tryz.underlying145 (by unfold maxLen;omega) (key:=.int .i64 (k:Nat)) (kl:=.int .i64 (k:Nat)) (Maps.keyOf_int_mk sL (by simp[Lit.wf,IntKind.min,IntKind.max,IntKind.signed,IntKind.bits];omega)) (aLA k)
 refine⟨w',hrun,⟨h0,_,hD',fun j hj hl=>?_⟩,hg⟩
 by_cases e:j=k
 ·subst e
  exact Maps.atKey_put_same hm (show WideAt.IsKeyLit (.int .i64 _)from True.intro) _ _
 ·rw[Maps.atKey_put_other (by intro e2;simp at e2;omega)]
  rw[getD_set_ne false (by omega)]at hl
  exact hkeys j hj hl
theorem aGL{P:Program}{Q:Exit→Act→World→Prop}{o:Oper}{K:Act→World→Prop}{a:Act}{w w':World}(v:Value)(hr:(execOp a.eval o).run P w=.ok (.value v) w')(hK:K (a.put o.dst v) w'):o.wp P a w K Q:=by
 unfold Oper.wp
 rw[hr]
 exact hK
theorem kP{P:Program}{Q:Exit→Act→World→Prop}{o:Oper}{K:Act→World→Prop}{a:Act}{w w':World}(hr:(execOp a.eval o).run P w=.ok .skip w')(hK:K (a.put o.dst undef) w'):o.wp P a w K Q:=by
 unfold Oper.wp
 rw[hr]
 exact hK
theorem unl{listed:Array Bool}{i:Nat}(h:listed.getD i true=false):listed.getD i false=false∧i<listed.size:=by
 by_cases hi:i<listed.size
 ·simp[Array.getD,hi]at h ⊢;exact h
 ·simp[Array.getD,hi]at h
theorem TakeI.make{w0:World}{G o H0:Nat}{L L':List Value}{rst:Bool}{c:Nat}{listed:Array Bool}{V:Nat→Value}{w:World}(h:TakeI w0 G o H0 L L' rst c listed V w)(hi:0<listed.size)(hu:listed.getD 0 false=false)(h14:listed.getD 14 false=false)(hd:∀k,k<7→listed.getD k false=false):
    TakeI w0 G o H0 L L' rst c (listed.setIfInBounds 0 true) (fun j=>if j=0 then .map (some w.heap.size)else V j) (w.alloc (.map #[] 0)):=by
 have keep:∀j,j≠0→(listed.setIfInBounds 0 true).getD j false=listed.getD j false:=fun j hj=>getD_set_ne false (Ne.symm hj)
 have hx:Ext w (w.alloc (.map #[] 0)):=(Ext.refl w).alloc _
 obtain⟨hp,he⟩:=h.pre h14
 have one:∀(j:Nat) (x:Value),j≠0→(listed.getD j false=true→V j=x)→(listed.setIfInBounds 0 true).getD j false=true→(if j=0 then Value.map (some w.heap.size)else V j)=x:=fun j x h1 h2 hl=>by
  rw[if_neg h1];exact h2 (by rw[←keep j h1];exact hl)
 refine⟨(hx.block _ (aC h.row)).trans h.row,fun _=>⟨hp.ext hx,he.trans hx⟩,fun hl=>?_,fun _ _=>⟨w.heap.size,0,rfl,Nat.zero_le _,he.size,_,World.ownsMap_made _ _ _ _,fun k hk hl=>?_⟩,fun hl=>?_,one 7 _ (by decide) h.v7,one 8 _ (by decide) h.v8,one 9 _ (by decide) h.v9,one 10 _ (by decide) h.v10,one 11 _ (by decide) h.v11,one 12 _ (by decide) h.v12,one 13 _ (by decide) h.v13⟩
 ·rw[keep 14 (by decide),h14]at hl;cases hl
 ·rw[keep (k+1) (by omega),hd (k+1) (by omega)]at hl;cases hl
 ·rw[keep 6 (by decide),hd 6 (by decide)]at hl;cases hl
theorem TakeI.ins{w0:World}{G o H0:Nat}{L L':List Value}{rst:Bool}{c:Nat}{listed:Array Bool}{V:Nat→Value}{w:World}(h:TakeI w0 G o H0 L L' rst c listed V w)(k:Nat)(hk:k<5)(hi:k+1<listed.size)(hu:listed.getD (k+1) false=false)(h0:listed.getD 0 false=true)(h14:listed.getD 14 false=false)(h6:listed.getD 6 false=false):
    ∃ b w',V 0=.map (some b)∧(Instr.mapUpdate 145 (.map (some b)) (.int .i64 (k:Nat)) (.func (.func (gE k)) #[] #[])).run Tryz.prog w=.ok () w' ∧
     TakeI w0 G o H0 L L' rst c (listed.setIfInBounds (k+1) true) (fun j=>if j=k+1 then undef else V j) w':=by
 have keep:∀j,j≠k+1→(listed.setIfInBounds (k+1) true).getD j false=listed.getD j false:=fun j hj=>getD_set_ne false (Ne.symm hj)
 obtain⟨b,n,hb,hn,hM⟩:=h.map h0 h14
 have hcn:aBB listed≤5:=by
  unfold aBB
  have:=Bool.toNat_le (listed.getD 1 false);have:=Bool.toNat_le (listed.getD 2 false);have:=Bool.toNat_le (listed.getD 3 false);have:=Bool.toNat_le (listed.getD 4 false);have:=Bool.toNat_le (listed.getD 5 false)
  omega
 obtain⟨w',hrun,hM',hg⟩:=aGK hM (by omega) k hk hi
 obtain⟨hp,he⟩:=h.pre h14
 obtain ⟨es,clock,hbm⟩:∃es clock,w.heap[b]?=some (.map es clock):=by
  obtain⟨_,D,⟨es,clock,hb,_⟩,_⟩:=hM
  exact⟨es,clock,hb⟩
 have hHb:some H0≠some b:=fun e=>by
  cases e
  have:=h.row
  rw[hbm]at this
  cases this
 have hGb:some G≠some b:=fun e=>by
  cases e
  obtain⟨C,T,h1,_⟩:=hp
  rw[hbm]at h1
  cases h1
 have he':Ext w0 w':=Below.grown he hg he.size (fun q hq=>by cases hq;exact hM.1)
 have cn:n+1≤aBB (listed.setIfInBounds (k+1) true):=by
  have lst:(listed.setIfInBounds (k+1) true).getD (k+1) false=true:=by simp[Array.getD,hi]
  unfold aBB at hn ⊢
  rcases(show k=0∨k=1∨k=2∨k=3∨k=4 by omega)with rfl|rfl|rfl|rfl|rfl
  all_goals
   simp only[Nat.zero_add,Nat.reduceAdd]at lst hu hn ⊢
   rw[lst]
   rw[hu]at hn
   simp only[Bool.toNat_true,Bool.toNat_false]at hn ⊢
   first
   | (rw[keep 2 (by decide),keep 3 (by decide),keep 4 (by decide),keep 5 (by decide)];omega)
   | (rw[keep 1 (by decide),keep 3 (by decide),keep 4 (by decide),keep 5 (by decide)];omega)
   | (rw[keep 1 (by decide),keep 2 (by decide),keep 4 (by decide),keep 5 (by decide)];omega)
   | (rw[keep 1 (by decide),keep 2 (by decide),keep 3 (by decide),keep 5 (by decide)];omega)
   | (rw[keep 1 (by decide),keep 2 (by decide),keep 3 (by decide),keep 4 (by decide)];omega)
 have one:∀(j:Nat) (x:Value),j≠k+1→(listed.getD j false=true→V j=x)→(listed.setIfInBounds (k+1) true).getD j false=true→(if j=k+1 then undef else V j)=x:=fun j x h1 h2 hl=>by
  rw[if_neg h1];exact h2 (by rw[←keep j h1];exact hl)
 refine⟨b,w',hb,hrun,(hg.block _ (aC h.row) hHb).trans h.row,fun _=>⟨hp.keep (hg.block _ hp.lt hGb),he'⟩,fun hl=>?_,fun _ _=>⟨b,n+1,?_,cn,hM'⟩,fun hl=>?_,one 7 _ (by omega) h.v7,one 8 _ (by omega) h.v8,one 9 _ (by omega) h.v9,one 10 _ (by omega) h.v10,one 11 _ (by omega) h.v11,one 12 _ (by omega) h.v12,one 13 _ (by omega) h.v13⟩
 ·rw[keep 14 (by omega),h14]at hl;cases hl
 ·show(if 0=k+1 then undef else V 0)=_
  rw[if_neg (by omega)];exact hb
 ·rw[keep 6 (by omega),h6]at hl;cases hl
theorem TakeI.cls{w0:World}{G o H0:Nat}{L L':List Value}{rst:Bool}{c:Nat}{listed:Array Bool}{V:Nat→Value}{w w':World}(h:TakeI w0 G o H0 L L' rst c listed V w)(hi:11<listed.size)(hu:listed.getD 11 false=false)(h14:listed.getD 14 false=false)(hx:Ext w w'):
    TakeI w0 G o H0 L L' rst c (listed.setIfInBounds 11 true) (fun j=>if j=11 then .int .i64 c else V j) w':=by
 have h2:TakeI w0 G o H0 L L' rst c listed V w':=by
  obtain⟨hp,he⟩:=h.pre h14
  refine⟨(hx.block _ (aC h.row)).trans h.row,fun _=>⟨hp.ext hx,he.trans hx⟩,fun hl=>?_,fun a1 a2=>?_,h.v6,h.v7,h.v8,h.v9,h.v10,h.v11,h.v12,h.v13⟩
  ·rw[h14]at hl;cases hl
  ·obtain⟨b,n,hb,hn,hM⟩:=h.map a1 a2
   exact⟨b,n,hb,hn,aGJ hM hx⟩
 exact h2.pure hi hu _ (by decide) (by decide) (by decide) ⟨(fun e=>absurd e (by decide)),(fun e=>absurd e (by decide)),(fun e=>absurd e (by decide)),(fun e=>absurd e (by decide)),(fun e=>absurd e (by decide)),fun _=>rfl,(fun e=>absurd e (by decide)),(fun e=>absurd e (by decide))⟩
theorem TakeI.last{w0:World}{G o H0:Nat}{L L':List Value}{rst:Bool}{c:Nat}{listed:Array Bool}{V:Nat→Value}{w w':World}(h:TakeI w0 G o H0 L L' rst c listed V w)(hi:14<listed.size)(h14:listed.getD 14 false=false)(hne:H0≠G)(v:Value)(hp':Pv w' G o L')(hm:Pm G o w w'):
    TakeI w0 G o H0 L L' rst c (listed.setIfInBounds 14 true) (fun j=>if j=14 then v else V j) w':=by
 have keep:∀j,j≠14→(listed.setIfInBounds 14 true).getD j false=listed.getD j false:=fun j hj=>getD_set_ne false (Ne.symm hj)
 have lst:(listed.setIfInBounds 14 true).getD 14 false=true:=by simp[Array.getD,hi]
 obtain⟨hp,he⟩:=h.pre h14
 have one:∀(j:Nat) (x:Value),j≠14→(listed.getD j false=true→V j=x)→(listed.setIfInBounds 14 true).getD j false=true→(if j=14 then v else V j)=x:=fun j x h1 h2 hl=>by
  rw[if_neg h1];exact h2 (by rw[←keep j h1];exact hl)
 refine⟨hm.row h.row hne,fun hl=>?_,fun _=>⟨hp',(he.pm G o).trans hm⟩,fun _ hl=>?_,fun hl=>?_,one 7 _ (by decide) h.v7,one 8 _ (by decide) h.v8,one 9 _ (by decide) h.v9,one 10 _ (by decide) h.v10,one 11 _ (by decide) h.v11,one 12 _ (by decide) h.v12,one 13 _ (by decide) h.v13⟩
 ·rw[lst]at hl;cases hl
 ·rw[lst]at hl;cases hl
 ·show(if 6=14 then v else V 6)=(if 0=14 then v else V 0)
  rw[if_neg (by decide),if_neg (by decide)]
  exact h.v6 (by rw[←keep 6 (by decide)];exact hl)
theorem aBC{w:World}(G o:Nat)(L L':List Value)(hP_w:Pv w G o L)(hl:L.length=89)(rst:Bool)(c:Nat)(hc:c<5)(hcls:∀w,Calls Tryz.prog 145 #[.agg L.toArray] w fun e w'=>e=.returned (.int .i64 c)∧Ext w w')(hdyn:∀w,Pv w G o L→Calls Tryz.prog (gE c) #[.agg #[.pointer (some ⟨G,o,none⟩),.bool rst]] w fun e w'=>e=.returned (.tuple #[])∧Pv w' G o L'∧Pm G o w w'):
    Calls Tryz.prog 81 #[.agg #[.pointer (some ⟨G,o,none⟩),.bool rst]] w fun e w'=>e=.returned (.tuple #[])∧Pv w' G o ((L'.set 36 (.bool false)).set 18 (.int .i64 2))∧Pm G o w w':=by
 have hG:=hP_w.lt
 have HLEN:=hD hl
 have HC:=hD hcls
 have HD:=hD hdyn
 clear hl hcls hdyn
 go_enter Tryz.func81,Tryz.ntmps81
 go_wp2_with (first
  | fail
  | ((with_reducible refine bP 110 ?_);refine bQ rfl 110 _ rfl #[.pointer (some ⟨G,o,none⟩),.bool rst] rfl ?_
     intro H0 z1 hq hs hx
     have hP1:Pv z1 G o L:=hP_w.ext hx
     have E1:Pm G o w z1:=hx.pm G o
     have hne:H0≠G:=by omega
     clear hs hx hP_w))
 have hPl:=hP1.len
 refine aJC (by kernel_rfl) (fun wd hqx=>?_)
 refine wU (zF (by kernel_rfl)) (aGI (by kernel_rfl)) (TakeI z1 G o H0 L L' rst c) ?step ?fin _ _ (fun _=>undef) _ wd (by rfl) (aGH _) (by decide +kernel) (aIG _ _ _) ?ini
 case ini =>
  refine⟨(hqx.block _ (aC hq)).trans hq,fun _=>⟨hP1.ext hqx,hqx⟩,fun h=>?_,fun h=>?_,fun h=>?_,fun h=>?_,fun h=>?_,fun h=>?_,fun h=>?_,fun h=>?_,fun h=>?_,fun h=>?_⟩<;>cases h
 case fin =>
  intro listed V a wf hs hall hL hI
  obtain rfl:=aDX (zF (by kernel_rfl)) hL hs hall
  obtain⟨hP_wf,hmf⟩:=hI.post (hall 14 (by decide))
  have E_wf:=E1.trans hmf
  have hH_wf:=hI.row
  clear HC HD
  have HLEN:=hD hP_wf.len
  clear hL hI hall hs hPl hP1 hq hqx
  simp only[sJ,Act.put,List.setIfInBounds_toArray,List.set_cons_zero,List.set_cons_succ]
  have rH0_wf:=cV hH_wf
  go_wp2_with (first
   | fail
   | ((with_reducible refine aD 4 ?_);refine bI rfl rfl 4 _ _ rfl G o 36 _ hP_wf _ #[.bool false] rfl rfl rfl (by exact(by decide:36+1≤89)) (by kernel_rfl) rfl ?_
      intro z1 hp hm
      replace hp:=aO hp HLEN.out (by decide)
      have hP_z1:=hp
      have hH_z1:=hm.row hH_wf (show H0≠G by omega)
      have E_z1:Pm G o w z1:=E_wf.trans hm
      have rH0_z1:=cV hH_z1
      clear hH_wf hP_wf E_wf rH0_wf
      clear hp hm)
   | ((with_reducible refine aD 3 ?_);refine bI rfl rfl 3 _ _ rfl G o 18 _ hP_z1 _ #[.int .i64 2] rfl rfl rfl (by exact(by decide:18+1≤89)) (by kernel_rfl) rfl ?_
      intro z2 hp hm
      replace hp:=aO hp (aB HLEN.out) (by decide)
      have hP_z2:=hp
      have hH_z2:=hm.row hH_z1 (show H0≠G by omega)
      have E_z2:Pm G o w z2:=E_z1.trans hm
      have rH0_z2:=cV hH_z2
      clear hH_z1 hP_z1 E_z1 rH0_z1
      clear hp hm))
  go_end0
  exact⟨rfl,hP_z2,E_z2⟩
 case step =>
  intro listed V a w i op hio hs hcl hu hdep hL hI
  obtain⟨huf,hil⟩:=unl hu
  have hi15:i<15:=by
   have:=(Array.getElem?_eq_some_iff.1 hio).1
   simpa using this
  have e1:a.eval (.tmp 1)=.pointer (some ⟨H0,0,none⟩):=(hL.olds (t:=1) (by kernel_rfl)).trans rfl
  have all14:listed.getD 14 false=true→∀k,k<14→listed.getD k false=true:=fun h=>by
   have c12:=hcl 14 _ { on:=12,ground:=Ground.data } rfl h (by simp) rfl
   have c13:=hcl 14 _ { on:=13,ground:=Ground.data } rfl h (by simp) rfl
   have c6:=hcl 12 _ { on:=6,ground:=Ground.data } rfl c12 (by simp) rfl
   have c11:=hcl 12 _ { on:=11,ground:=Ground.data } rfl c12 (by simp) rfl
   have c10:=hcl 11 _ { on:=10,ground:=Ground.data } rfl c11 (by simp) rfl
   have c9:=hcl 10 _ { on:=9,ground:=Ground.data } rfl c10 (by simp) rfl
   have c8:=hcl 9 _ { on:=8,ground:=Ground.data } rfl c9 (by simp) rfl
   have c7:=hcl 8 _ { on:=7,ground:=Ground.data } rfl c8 (by simp) rfl
   have c0:=hcl 6 _ { on:=0,ground:=Ground.data } rfl c6 (by simp) rfl
   have c1:=hcl 6 _ { on:=1,ground:=Ground.data } rfl c6 (by simp) rfl
   have c2:=hcl 6 _ { on:=2,ground:=Ground.data } rfl c6 (by simp) rfl
   have c3:=hcl 6 _ { on:=3,ground:=Ground.data } rfl c6 (by simp) rfl
   have c4:=hcl 6 _ { on:=4,ground:=Ground.data } rfl c6 (by simp) rfl
   have c5:=hcl 6 _ { on:=5,ground:=Ground.data } rfl c6 (by simp) rfl
   intro k hk
   rcases(show k=0∨k=1∨k=2∨k=3∨k=4∨k=5∨k=6∨k=7∨k=8∨k=9∨k=10∨k=11∨k=12∨k=13 by omega)with rfl|rfl|rfl|rfl|rfl|rfl|rfl|rfl|rfl|rfl|rfl|rfl|rfl|rfl
   all_goals assumption
  have h14f:i<14→listed.getD 14 false=false:=fun hi14=>by
   cases hck:listed.getD 14 false with
   | false=>rfl
   | true =>
    exfalso
    have:=all14 hck i hi14
    rw[huf]at this
    cases this
  rcases(show i=0∨i=1∨i=2∨i=3∨i=4∨i=5∨i=6∨i=7∨i=8∨i=9∨i=10∨i=11∨i=12∨i=13∨i=14 by omega)with rfl|rfl|rfl|rfl|rfl|rfl|rfl|rfl|rfl|rfl|rfl|rfl|rfl|rfl|rfl
  ·-- 0
   have hio0:=hio
   simp only[List.getElem?_toArray,List.getElem?_cons_zero,List.getElem?_cons_succ,Option.some.injEq]at hio
   subst hio
   refine cP hio0 rfl (aGL (.map (some w.heap.size)) (w':=w.alloc (.map #[] 0)) rfl ⟨_,rfl,hI.make hil huf (h14f (by decide)) ?_⟩)
   intro k hk
   cases hck:listed.getD k false with
   | false=>rfl
   | true =>
    exfalso
    rcases(show k=0∨k=1∨k=2∨k=3∨k=4∨k=5∨k=6 by omega)with rfl|rfl|rfl|rfl|rfl|rfl|rfl
    ·rw[huf]at hck;cases hck
    all_goals
     have q:=hcl _ _ { on:=0,ground:=Ground.data } rfl hck (by simp) rfl
     rw[huf]at q
     cases q
  ·-- 1
   have hio0:=hio
   simp only[List.getElem?_toArray,List.getElem?_cons_zero,List.getElem?_cons_succ,Option.some.injEq]at hio
   subst hio
   have d0:=hdep { on:=0,ground:=Ground.data } (by simp) rfl
   have h6:listed.getD 6 false=false:=by
    cases hck:listed.getD 6 false with
    | false=>rfl
    | true =>
     exfalso
     have q:=hcl _ _ { on:=1,ground:=Ground.data } rfl hck (by simp) rfl
     rw[huf]at q
     cases q
   obtain⟨b,w',hb,hrun,hI'⟩:=hI.ins 0 (by decide) hil huf d0 (h14f (by decide)) h6
   have e2:a.eval (.tmp 2)=.map (some b):=(hL.val (i:=0) rfl rfl d0 (by exact(by decide:2<22))).trans hb
   refine cP hio0 rfl (kP (w':=w') ?_ ⟨undef,rfl,hI'⟩)
   have hr:(Instr.mapUpdate 145 (.map (some b)) (.int .i64 0) (.func (.func 140) #[] #[])).run Tryz.prog w=.ok () w':=hrun
   unfold execOp
   simp only[e2]
   simp only[Act.eval]
   rw[Sem.run_bind,hr]
   rfl
  ·-- 2
   have hio0:=hio
   simp only[List.getElem?_toArray,List.getElem?_cons_zero,List.getElem?_cons_succ,Option.some.injEq]at hio
   subst hio
   have d0:=hdep { on:=0,ground:=Ground.data } (by simp) rfl
   have h6:listed.getD 6 false=false:=by
    cases hck:listed.getD 6 false with
    | false=>rfl
    | true =>
     exfalso
     have q:=hcl _ _ { on:=2,ground:=Ground.data } rfl hck (by simp) rfl
     rw[huf]at q
     cases q
   obtain⟨b,w',hb,hrun,hI'⟩:=hI.ins 1 (by decide) hil huf d0 (h14f (by decide)) h6
   have e2:a.eval (.tmp 2)=.map (some b):=(hL.val (i:=0) rfl rfl d0 (by exact(by decide:2<22))).trans hb
   refine cP hio0 rfl (kP (w':=w') ?_ ⟨undef,rfl,hI'⟩)
   have hr:(Instr.mapUpdate 145 (.map (some b)) (.int .i64 1) (.func (.func 141) #[] #[])).run Tryz.prog w=.ok () w':=hrun
   unfold execOp
   simp only[e2]
   simp only[Act.eval]
   rw[Sem.run_bind,hr]
   rfl
  ·-- 3
   have hio0:=hio
   simp only[List.getElem?_toArray,List.getElem?_cons_zero,List.getElem?_cons_succ,Option.some.injEq]at hio
   subst hio
   have d0:=hdep { on:=0,ground:=Ground.data } (by simp) rfl
   have h6:listed.getD 6 false=false:=by
    cases hck:listed.getD 6 false with
    | false=>rfl
    | true =>
     exfalso
     have q:=hcl _ _ { on:=3,ground:=Ground.data } rfl hck (by simp) rfl
     rw[huf]at q
     cases q
   obtain⟨b,w',hb,hrun,hI'⟩:=hI.ins 2 (by decide) hil huf d0 (h14f (by decide)) h6
   have e2:a.eval (.tmp 2)=.map (some b):=(hL.val (i:=0) rfl rfl d0 (by exact(by decide:2<22))).trans hb
   refine cP hio0 rfl (kP (w':=w') ?_ ⟨undef,rfl,hI'⟩)
   have hr:(Instr.mapUpdate 145 (.map (some b)) (.int .i64 2) (.func (.func 142) #[] #[])).run Tryz.prog w=.ok () w':=hrun
   unfold execOp
   simp only[e2]
   simp only[Act.eval]
   rw[Sem.run_bind,hr]
   rfl
  ·-- 4
   have hio0:=hio
   simp only[List.getElem?_toArray,List.getElem?_cons_zero,List.getElem?_cons_succ,Option.some.injEq]at hio
   subst hio
   have d0:=hdep { on:=0,ground:=Ground.data } (by simp) rfl
   have h6:listed.getD 6 false=false:=by
    cases hck:listed.getD 6 false with
    | false=>rfl
    | true =>
     exfalso
     have q:=hcl _ _ { on:=4,ground:=Ground.data } rfl hck (by simp) rfl
     rw[huf]at q
     cases q
   obtain⟨b,w',hb,hrun,hI'⟩:=hI.ins 3 (by decide) hil huf d0 (h14f (by decide)) h6
   have e2:a.eval (.tmp 2)=.map (some b):=(hL.val (i:=0) rfl rfl d0 (by exact(by decide:2<22))).trans hb
   refine cP hio0 rfl (kP (w':=w') ?_ ⟨undef,rfl,hI'⟩)
   have hr:(Instr.mapUpdate 145 (.map (some b)) (.int .i64 3) (.func (.func 143) #[] #[])).run Tryz.prog w=.ok () w':=hrun
   unfold execOp
   simp only[e2]
   simp only[Act.eval]
   rw[Sem.run_bind,hr]
   rfl
  ·-- 5
   have hio0:=hio
   simp only[List.getElem?_toArray,List.getElem?_cons_zero,List.getElem?_cons_succ,Option.some.injEq]at hio
   subst hio
   have d0:=hdep { on:=0,ground:=Ground.data } (by simp) rfl
   have h6:listed.getD 6 false=false:=by
    cases hck:listed.getD 6 false with
    | false=>rfl
    | true =>
     exfalso
     have q:=hcl _ _ { on:=5,ground:=Ground.data } rfl hck (by simp) rfl
     rw[huf]at q
     cases q
   obtain⟨b,w',hb,hrun,hI'⟩:=hI.ins 4 (by decide) hil huf d0 (h14f (by decide)) h6
   have e2:a.eval (.tmp 2)=.map (some b):=(hL.val (i:=0) rfl rfl d0 (by exact(by decide:2<22))).trans hb
   refine cP hio0 rfl (kP (w':=w') ?_ ⟨undef,rfl,hI'⟩)
   have hr:(Instr.mapUpdate 145 (.map (some b)) (.int .i64 4) (.func (.func 144) #[] #[])).run Tryz.prog w=.ok () w':=hrun
   unfold execOp
   simp only[e2]
   simp only[Act.eval]
   rw[Sem.run_bind,hr]
   rfl
  ·-- 6
   have hio0:=hio
   simp only[List.getElem?_toArray,List.getElem?_cons_zero,List.getElem?_cons_succ,Option.some.injEq]at hio
   subst hio
   have d0:=hdep { on:=0,ground:=Ground.data } (by simp) rfl
   have e2:a.eval (.tmp 2)=V 0:=hL.val (i:=0) rfl rfl d0 (by exact(by decide:2<22))
   refine cP hio0 rfl (sK (V 0) ?_ ⟨_,rfl,hI.pure hil huf _ (by decide) (by decide) (by decide) ⟨(fun _=>rfl),(fun e=>absurd e (by decide)),(fun e=>absurd e (by decide)),(fun e=>absurd e (by decide)),(fun e=>absurd e (by decide)),(fun e=>absurd e (by decide)),(fun e=>absurd e (by decide)),(fun e=>absurd e (by decide))⟩⟩)
   unfold execOp
   simp only[e2]
   rfl
  ·-- 7
   have hio0:=hio
   simp only[List.getElem?_toArray,List.getElem?_cons_zero,List.getElem?_cons_succ,Option.some.injEq]at hio
   subst hio
   refine cP hio0 rfl (sK (.pointer (some ⟨H0,0,none⟩)) ?_ ⟨_,rfl,hI.pure hil huf _ (by decide) (by decide) (by decide) ⟨(fun e=>absurd e (by decide)),(fun _=>rfl),(fun e=>absurd e (by decide)),(fun e=>absurd e (by decide)),(fun e=>absurd e (by decide)),(fun e=>absurd e (by decide)),(fun e=>absurd e (by decide)),(fun e=>absurd e (by decide))⟩⟩)
   unfold execOp
   simp only[e1]
   rfl
  ·-- 8
   have hio0:=hio
   simp only[List.getElem?_toArray,List.getElem?_cons_zero,List.getElem?_cons_succ,Option.some.injEq]at hio
   subst hio
   have d7:=hdep { on:=7,ground:=Ground.data } (by simp) rfl
   have e4:a.eval (.tmp 4)=_:=(hL.val (i:=7) rfl rfl d7 (by exact(by decide:4<22))).trans (hI.v7 d7)
   exact(aA (S:=fun x=>x=w) rfl 79 _ rfl ⟨H0,0,none⟩ e4 (.pointer (some ⟨G,o,none⟩)) _ (fun W' hW'=>by rw[hW'];exact(cell_of_row _ _ _ _ _ _ hI.row).trans rfl) Tryz.underlying79 rfl).wpOp hio0 rfl ⟨_,rfl,hI.pure hil huf _ (by decide) (by decide) (by decide) ⟨(fun e=>absurd e (by decide)),(fun e=>absurd e (by decide)),(fun _=>rfl),(fun e=>absurd e (by decide)),(fun e=>absurd e (by decide)),(fun e=>absurd e (by decide)),(fun e=>absurd e (by decide)),(fun e=>absurd e (by decide))⟩⟩
  ·-- 9
   have hio0:=hio
   simp only[List.getElem?_toArray,List.getElem?_cons_zero,List.getElem?_cons_succ,Option.some.injEq]at hio
   subst hio
   have d8:=hdep { on:=8,ground:=Ground.data } (by simp) rfl
   have e5:a.eval (.tmp 5)=_:=(hL.val (i:=8) rfl rfl d8 (by exact(by decide:5<22))).trans (hI.v8 d8)
   refine cP hio0 rfl (sK (.pointer (some ⟨G,o,none⟩)) ?_ ⟨_,rfl,hI.pure hil huf _ (by decide) (by decide) (by decide) ⟨(fun e=>absurd e (by decide)),(fun e=>absurd e (by decide)),(fun e=>absurd e (by decide)),(fun _=>rfl),(fun e=>absurd e (by decide)),(fun e=>absurd e (by decide)),(fun e=>absurd e (by decide)),(fun e=>absurd e (by decide))⟩⟩)
   unfold execOp
   simp only[e5]
   rfl
  ·-- 10
   have hio0:=hio
   simp only[List.getElem?_toArray,List.getElem?_cons_zero,List.getElem?_cons_succ,Option.some.injEq]at hio
   subst hio
   have d9:=hdep { on:=9,ground:=Ground.data } (by simp) rfl
   have e6:a.eval (.tmp 6)=_:=(hL.val (i:=9) rfl rfl d9 (by exact(by decide:6<22))).trans (hI.v9 d9)
   have hpw:=(hI.pre (h14f (by decide))).1
   exact(yieldsIf_load_mid (S:=fun x=>x=w) rfl 60 _ rfl G o e6 L _ (fun W' hW'=>by rw[hW'];exact hpw.range (j:=0) (n:=89) (by rw[List.drop_zero,List.take_of_length_le (by rw[HLEN.out];exact Nat.le_refl 89)]) (by decide)) Tryz.underlying60 rfl (by rw[HLEN.out];exact gQ)).wpOp hio0 rfl ⟨_,rfl,hI.pure hil huf _ (by decide) (by decide) (by decide) ⟨(fun e=>absurd e (by decide)),(fun e=>absurd e (by decide)),(fun e=>absurd e (by decide)),(fun e=>absurd e (by decide)),(fun _=>rfl),(fun e=>absurd e (by decide)),(fun e=>absurd e (by decide)),(fun e=>absurd e (by decide))⟩⟩
  ·-- 11
   have hio0:=hio
   simp only[List.getElem?_toArray,List.getElem?_cons_zero,List.getElem?_cons_succ,Option.some.injEq]at hio
   subst hio
   have d10:=hdep { on:=10,ground:=Ground.data } (by simp) rfl
   have e7:a.eval (.tmp 7)=_:=(hL.val (i:=10) rfl rfl d10 (by exact(by decide:7<22))).trans (hI.v10 d10)
   refine cP hio0 rfl ?_
   have e7':a.tmps[7]?.getD undef=.agg L.toArray:=(Array.getD_eq_getD_getElem? ..).symm.trans e7
   go_simp
   refine(HC.out _).mono ?_
   rintro e w' ⟨rfl,hx⟩
   exact⟨_,rfl,hI.cls hil huf (h14f (by decide)) hx⟩
  ·-- 12
   have hio0:=hio
   simp only[List.getElem?_toArray,List.getElem?_cons_zero,List.getElem?_cons_succ,Option.some.injEq]at hio
   subst hio
   have d6:=hdep { on:=6,ground:=Ground.data } (by simp) rfl
   have d11:=hdep { on:=11,ground:=Ground.data } (by simp) rfl
   have e8:a.eval (.tmp 8)=_:=(hL.val (i:=11) rfl rfl d11 (by exact(by decide:8<22))).trans (hI.v11 d11)
   have c0:=hcl 6 _ { on:=0,ground:=Ground.data } rfl d6 (by simp) rfl
   have ck:listed.getD (c+1) false=true:=by
    rcases(show c=0∨c=1∨c=2∨c=3∨c=4 by omega)with rfl|rfl|rfl|rfl|rfl
    ·exact hcl 6 _ { on:=1,ground:=Ground.data } rfl d6 (by simp) rfl
    ·exact hcl 6 _ { on:=2,ground:=Ground.data } rfl d6 (by simp) rfl
    ·exact hcl 6 _ { on:=3,ground:=Ground.data } rfl d6 (by simp) rfl
    ·exact hcl 6 _ { on:=4,ground:=Ground.data } rfl d6 (by simp) rfl
    ·exact hcl 6 _ { on:=5,ground:=Ground.data } rfl d6 (by simp) rfl
   obtain⟨b,n,hb,hn,h0,DD,hD0,hkeys⟩:=hI.map c0 (h14f (by decide))
   obtain⟨v,ps,hrun,hR⟩:=hD0.lookup (t:=145) (e:=144) uC Tryz.underlying145 (nilf w) (zd:=.lit (.int .i64 (-1))) (zp:=[]) rfl (key:=.int .i64 (c:Nat)) (kl:=.int .i64 (c:Nat)) (Maps.keyOf_int_mk sL (by simp[Lit.wf,IntKind.min,IntKind.max,IntKind.signed,IntKind.bits];omega))
   rw[hkeys c hc ck]at hR
   obtain rfl:=aJD hR
   have e3:a.eval (.tmp 3)=.map (some b):=(hL.val (i:=6) rfl rfl d6 (by exact(by decide:3<22))).trans ((hI.v6 d6).trans hb)
   refine cP hio0 rfl (sK (.func (.func (gE c)) #[] #[]) ?_ ⟨_,rfl,hI.pure hil huf _ (by decide) (by decide) (by decide) ⟨(fun e=>absurd e (by decide)),(fun e=>absurd e (by decide)),(fun e=>absurd e (by decide)),(fun e=>absurd e (by decide)),(fun e=>absurd e (by decide)),(fun e=>absurd e (by decide)),(fun _=>rfl),(fun e=>absurd e (by decide))⟩⟩)
   unfold execOp
   simp only[e3,e8]
   rw[Sem.run_bind,hrun]
   rfl
  ·-- 13
   have hio0:=hio
   simp only[List.getElem?_toArray,List.getElem?_cons_zero,List.getElem?_cons_succ,Option.some.injEq]at hio
   subst hio
   exact(a4 (S:=fun x=>x=w) rfl 110 _ rfl H0 e1 #[.pointer (some ⟨G,o,none⟩),.bool rst] _ _ (fun W' hW'=>by rw[hW'];exact hI.row) Tryz.underlying110 rfl (by kernel_rfl)).wpOp hio0 rfl ⟨_,rfl,hI.pure hil huf _ (by decide) (by decide) (by decide) ⟨(fun e=>absurd e (by decide)),(fun e=>absurd e (by decide)),(fun e=>absurd e (by decide)),(fun e=>absurd e (by decide)),(fun e=>absurd e (by decide)),(fun e=>absurd e (by decide)),(fun e=>absurd e (by decide)),(fun _=>rfl)⟩⟩
  ·-- 14
   have hio0:=hio
   simp only[List.getElem?_toArray,List.getElem?_cons_zero,List.getElem?_cons_succ,Option.some.injEq]at hio
   subst hio
   have d12:=hdep { on:=12,ground:=Ground.data } (by simp) rfl
   have d13:=hdep { on:=13,ground:=Ground.data } (by simp) rfl
   have e9:a.eval (.tmp 9)=_:=(hL.val (i:=12) rfl rfl d12 (by exact(by decide:9<22))).trans (hI.v12 d12)
   have e10:a.eval (.tmp 10)=_:=(hL.val (i:=13) rfl rfl d13 (by exact(by decide:10<22))).trans (hI.v13 d13)
   have hpw:=(hI.pre huf).1
   rcases(show c=0∨c=1∨c=2∨c=3∨c=4 by omega)with rfl|rfl|rfl|rfl|rfl
   all_goals
    simp only[gE]at e9
    refine cP hio0 rfl ?_
    have e9':=(Array.getD_eq_getD_getElem? ..).symm.trans e9
    have e10':=(Array.getD_eq_getD_getElem? ..).symm.trans e10
    go_simp
    refine(HD.out _ hpw).mono ?_
    rintro e w' ⟨rfl,hp',hm⟩
    exact⟨_,rfl,hI.last hil huf hne _ hp' hm⟩
def bX(en is0 st0 rcv st1 st2 sel upd is3 clk0:Bool):Nat :=
 if((!en && !is0) || (st0 && rcv))=true then 1 else if(st0 && en)=true then 2 else if((st1 || st2) && sel && upd)=true then 3 else if(st2 && is3 && clk0 && !upd && !rcv)=true then 2 else if(st2 && rcv && !upd)=true then 4 else 0
def wV(n:Nat)(m:Value):Value:=match n with|0=>Value.nilFunc|1=>.func (.func 78) #[m] #[]|2=>.func (.func 79) #[m] #[]|3=>.func (.func 80) #[m] #[]|_=>.func (.func 81) #[m] #[]
theorem aGM{w:World}(G o:Nat)(L:List Value)(hP_w:Pv w G o L)(hl:L.length=89)(rst:Bool)(x2:Bool)(h2:L[2]?=some (.bool x2))(x11:Int)(h11:L[11]?=some (.int .i64 x11))(x18:Int)(h18:L[18]?=some (.int .i64 x18))(x22:Bool)(h22:L[22]?=some (.bool x22))(x23:Bool)(h23:L[23]?=some (.bool x23))(x24:Bool)(h24:L[24]?=some (.bool x24))(x25:Bool)(h25:L[25]?=some (.bool x25))(x26:Bool)(h26:L[26]?=some (.bool x26))(x27:Bool)(h27:L[27]?=some (.bool x27))(x28:Bool)(h28:L[28]?=some (.bool x28))(x29:Bool)(h29:L[29]?=some (.bool x29))(x30:Bool)(h30:L[30]?=some (.bool x30))(x31:Bool)(h31:L[31]?=some (.bool x31))(x32:Bool)(h32:L[32]?=some (.bool x32))(x33:Bool)(h33:L[33]?=some (.bool x33))(x34:Bool)(h34:L[34]?=some (.bool x34))(x35:Bool)(h35:L[35]?=some (.bool x35))(x36:Bool)(h36:L[36]?=some (.bool x36))(x37:Bool)(h37:L[37]?=some (.bool x37))(x38:Bool)(h38:L[38]?=some (.bool x38))(x39:Bool)(h39:L[39]?=some (.bool x39))(x40:Bool)(h40:L[40]?=some (.bool x40))(x41:Bool)(h41:L[41]?=some (.bool x41))(x42:Bool)(h42:L[42]?=some (.bool x42))(x43:Bool)(h43:L[43]?=some (.bool x43))(x44:Bool)(h44:L[44]?=some (.bool x44))(x45:Bool)(h45:L[45]?=some (.bool x45))(x46:Bool)(h46:L[46]?=some (.bool x46))(x47:Bool)(h47:L[47]?=some (.bool x47))(x48:Bool)(h48:L[48]?=some (.bool x48))(x49:Bool)(h49:L[49]?=some (.bool x49))(x50:Bool)(h50:L[50]?=some (.bool x50))(x86:Int)(h86:L[86]?=some (.int .i64 x86)):Calls Tryz.prog 54 #[.agg #[.pointer (some ⟨G,o,none⟩),.bool rst]] w fun e w'=>e=.returned (wV (bX x2 (x86 == 0) (x18 == 0) x36 (x18 == 1) (x18 == 2) x44 x50 (x86 == 3) (x11 == 0)) (.agg #[.pointer (some ⟨G,o,none⟩),.bool rst]))∧Pv w' G o L∧Pm G o w w':=by
 have hG:=hP_w.lt
 have HLEN:=hD hl
 have HL_2:=hD h2
 have HL_11:=hD h11
 have HL_18:=hD h18
 have HL_22:=hD h22
 have HL_23:=hD h23
 have HL_24:=hD h24
 have HL_25:=hD h25
 have HL_26:=hD h26
 have HL_27:=hD h27
 have HL_28:=hD h28
 have HL_29:=hD h29
 have HL_30:=hD h30
 have HL_31:=hD h31
 have HL_32:=hD h32
 have HL_33:=hD h33
 have HL_34:=hD h34
 have HL_35:=hD h35
 have HL_36:=hD h36
 have HL_37:=hD h37
 have HL_38:=hD h38
 have HL_39:=hD h39
 have HL_40:=hD h40
 have HL_41:=hD h41
 have HL_42:=hD h42
 have HL_43:=hD h43
 have HL_44:=hD h44
 have HL_45:=hD h45
 have HL_46:=hD h46
 have HL_47:=hD h47
 have HL_48:=hD h48
 have HL_49:=hD h49
 have HL_50:=hD h50
 have HL_86:=hD h86
 have HS_22:=hD (a7 (L:=L) (j:=22) (l:=[.bool x22,.bool x23,.bool x24,.bool x25,.bool x26,.bool x27,.bool x28,.bool x29,.bool x30,.bool x31,.bool x32,.bool x33,.bool x34,.bool x35,.bool x36,.bool x37,.bool x38,.bool x39,.bool x40,.bool x41,.bool x42,.bool x43,.bool x44,.bool x45,.bool x46,.bool x47,.bool x48,.bool x49,.bool x50]) (by rw[hl];exact(by decide:22+29≤89)) (fun i hi=>by
  match i,hi with
  | 0,_=>exact HL_22.out
  | 1,_=>exact HL_23.out
  | 2,_=>exact HL_24.out
  | 3,_=>exact HL_25.out
  | 4,_=>exact HL_26.out
  | 5,_=>exact HL_27.out
  | 6,_=>exact HL_28.out
  | 7,_=>exact HL_29.out
  | 8,_=>exact HL_30.out
  | 9,_=>exact HL_31.out
  | 10,_=>exact HL_32.out
  | 11,_=>exact HL_33.out
  | 12,_=>exact HL_34.out
  | 13,_=>exact HL_35.out
  | 14,_=>exact HL_36.out
  | 15,_=>exact HL_37.out
  | 16,_=>exact HL_38.out
  | 17,_=>exact HL_39.out
  | 18,_=>exact HL_40.out
  | 19,_=>exact HL_41.out
  | 20,_=>exact HL_42.out
  | 21,_=>exact HL_43.out
  | 22,_=>exact HL_44.out
  | 23,_=>exact HL_45.out
  | 24,_=>exact HL_46.out
  | 25,_=>exact HL_47.out
  | 26,_=>exact HL_48.out
  | 27,_=>exact HL_49.out
  | 28,_=>exact HL_50.out
  | i+29,hi=>simp at hi;omega))
 clear hl h2 h11 h18 h22 h23 h24 h25 h26 h27 h28 h29 h30 h31 h32 h33 h34 h35 h36 h37 h38 h39 h40 h41 h42 h43 h44 h45 h46 h47 h48 h49 h50 h86
 obtain⟨nn,hnn⟩:∃n,(bX x2 (x86 == 0) (x18 == 0) x36 (x18 == 1) (x18 == 2) x44 x50 (x86 == 3) (x11 == 0))=n:=⟨_,rfl⟩
 rw[hnn]
 have HNN:=hD hnn
 clear hnn
 go_enter Tryz.func54,Tryz.ntmps54
 go_wp2_with (first
  | fail
  | ((with_reducible refine bP 110 ?_);refine bQ rfl 110 _ rfl #[.pointer (some ⟨G,o,none⟩),.bool rst] rfl ?_
     intro H0 z1 hq hs hx
     have E_z1:Pm G o w z1:=Ext.pm hx G o
     have hP_z1:Pv z1 G o L:=hP_w.ext hx
     have hH_z1:z1.heap[H0]?=some (.cells #[.pointer (some ⟨G,o,none⟩),.bool rst] 110 (0,0)):=hq
     have hb_H0:w.heap.size≤H0:=by omega
     have hn_H0G:H0≠G:=by omega
     have rH0_z1:=cV hH_z1
     have rH1_z1:=dA hH_z1
     clear hP_w
     clear hq hs hx))
 refine aT (S:=fun W'=>Ext z1 W') (by kernel_rfl) ?_
 intro wd hqx
 have hq0:Ext z1 wd:=hqx
 refine aH 0 H0 0 rfl hq0 ?_
 refine tL 1 (_) rfl (aA rfl 79 _ rfl ⟨H0,0,none⟩ rfl (.pointer (some ⟨G,o,none⟩)) _ (fun W' hW'=>(cell_of_row _ _ _ _ _ _ ((hW'.block _ (aC hH_z1)).trans hH_z1)).trans rfl) Tryz.underlying79 rfl) hq0 ?_
 refine aH 2 G o rfl hq0 ?_
 refine aH 3 G (o+22) rfl hq0 ?_
 refine tL 4 (_) rfl (yieldsIf_load_mid rfl 58 _ rfl G (o+22) rfl ([.bool x22,.bool x23,.bool x24,.bool x25,.bool x26,.bool x27,.bool x28,.bool x29,.bool x30,.bool x31,.bool x32,.bool x33,.bool x34,.bool x35,.bool x36,.bool x37,.bool x38,.bool x39,.bool x40,.bool x41,.bool x42,.bool x43,.bool x44,.bool x45,.bool x46,.bool x47,.bool x48,.bool x49,.bool x50]) _ (fun W' hW'=>(hP_z1.ext hW').range (j:=22) (n:=29) HS_22.out (by decide)) Tryz.underlying58 rfl (by kernel_rfl)) hq0 ?_
 refine aH 5 H0 0 rfl hq0 ?_
 refine tL 6 (_) rfl (aA rfl 79 _ rfl ⟨H0,0,none⟩ rfl (.pointer (some ⟨G,o,none⟩)) _ (fun W' hW'=>(cell_of_row _ _ _ _ _ _ ((hW'.block _ (aC hH_z1)).trans hH_z1)).trans rfl) Tryz.underlying79 rfl) hq0 ?_
 refine aH 7 G o rfl hq0 ?_
 refine aH 8 G (o+15) rfl hq0 ?_
 refine aH 9 G (o+18) rfl hq0 ?_
 refine tL 10 (_) rfl (aA rfl 3 _ rfl ⟨G,o+18,none⟩ rfl (.int .i64 x18) _ (fun W' hW'=>((hP_z1.ext hW').cell (j:=18) (by decide)).trans HL_18.out) Tryz.underlying3 rfl) hq0 ?_
 refine bB (i:=11) rfl rfl (by kernel_rfl) (fun K hK=>?_)
 refine lN 58 rfl FZ iV (fun F0 wa11 hrow11 hsz11 hx=>?_)
 have hq1:=hq0.trans hx
 have hlo11:z1.heap.size≤F0:=by have:=hq0.size;omega
 clear hx
 refine hK.out _ _ hq1 (fun hHeld=>?_)
 try simp only[ps]
 clear hK K hHeld
 refine bB (i:=12) rfl rfl (by kernel_rfl) (fun K hK=>?_)
 refine gY rfl 58 _ _ rfl F0 0 _ #[.bool x22,.bool x23,.bool x24,.bool x25,.bool x26,.bool x27,.bool x28,.bool x29,.bool x30,.bool x31,.bool x32,.bool x33,.bool x34,.bool x35,.bool x36,.bool x37,.bool x38,.bool x39,.bool x40,.bool x41,.bool x42,.bool x43,.bool x44,.bool x45,.bool x46,.bool x47,.bool x48,.bool x49,.bool x50] _ #[.bool x22,.bool x23,.bool x24,.bool x25,.bool x26,.bool x27,.bool x28,.bool x29,.bool x30,.bool x31,.bool x32,.bool x33,.bool x34,.bool x35,.bool x36,.bool x37,.bool x38,.bool x39,.bool x40,.bool x41,.bool x42,.bool x43,.bool x44,.bool x45,.bool x46,.bool x47,.bool x48,.bool x49,.bool x50] _ rfl rfl rfl hrow11 (by exact(by decide:0+29≤29)) (by kernel_rfl) rfl rfl (fun ws12 hrow12 hm=>?_)
 have hq2:Ext z1 ws12:=Ext.mutE hq1 hm (fun n hn h=>by have h2:n=F0:=h;omega)
 clear hm
 refine hK.out _ _ hq2 (fun hHeld=>?_)
 try simp only[ps]
 clear hK K hHeld
 refine bO 13 ((.int .i64 x18)) rfl hq2 ?_
 refine wpAnyH_done (by kernel_rfl) ?_ _
 generalize ws12=z2 at *
 have hH_z2:z2.heap[H0]?=some (.cells #[.pointer (some ⟨G,o,none⟩),.bool rst] 110 (0,0)):=(hq2.block _ (aC hH_z1)).trans hH_z1
 have hP_z2:Pv z2 G o L:=hP_z1.ext hq2
 have E_z2:Pm G o w z2:=E_z1.ext hq2
 have hFl_z2:z2.heap[F0]?=some (.cells #[.bool x22,.bool x23,.bool x24,.bool x25,.bool x26,.bool x27,.bool x28,.bool x29,.bool x30,.bool x31,.bool x32,.bool x33,.bool x34,.bool x35,.bool x36,.bool x37,.bool x38,.bool x39,.bool x40,.bool x41,.bool x42,.bool x43,.bool x44,.bool x45,.bool x46,.bool x47,.bool x48,.bool x49,.bool x50] 58 (0,0)):=hrow12
 have rH0_z2:=cV hH_z2
 have rH1_z2:=dA hH_z2
 have rFl14_z2:z2.cell? ⟨F0,14,none⟩=some (.bool x36):=(cell_of_row _ _ _ _ _ _ hFl_z2).trans rfl
 have rFl22_z2:z2.cell? ⟨F0,22,none⟩=some (.bool x44):=(cell_of_row _ _ _ _ _ _ hFl_z2).trans rfl
 have rFl28_z2:z2.cell? ⟨F0,28,none⟩=some (.bool x50):=(cell_of_row _ _ _ _ _ _ hFl_z2).trans rfl
 have p2_z2:z2.cell? ⟨G,o+2,none⟩=some (.bool x2):=(hP_z2.cell (j:=2) (by decide)).trans HL_2.out
 have p11_z2:z2.cell? ⟨G,o+11,none⟩=some (.int .i64 x11):=(hP_z2.cell (j:=11) (by decide)).trans HL_11.out
 have p86_z2:z2.cell? ⟨G,o+86,none⟩=some (.int .i64 x86):=(hP_z2.cell (j:=86) (by decide)).trans HL_86.out
 clear hH_z1 hP_z1 E_z1 rH0_z1 rH1_z1
 clear hq0 hq1 hq2 hqx hrow11 HL_2 HL_11 HL_18 HL_22 HL_23 HL_24 HL_25 HL_26 HL_27 HL_28 HL_29 HL_30 HL_31 HL_32 HL_33 HL_34 HL_35 HL_36 HL_37 HL_38 HL_39 HL_40 HL_41 HL_42 HL_43 HL_44 HL_45 HL_46 HL_47 HL_48 HL_49 HL_50 HL_86 HS_22
 cases x2
 ·by_cases ex86_0:x86=0
  ·subst ex86_0
   by_cases ex18_0:x18=0
   ·subst ex18_0
    cases x36
    ·go_wp2_with (first
      | fail
      | ((with_reducible refine aG 110 ?_);refine wpList_load_row rfl 110 _ rfl H0 rfl 110 #[.pointer (some ⟨G,o,none⟩),.bool rst] (0,0) _ hH_z2 Tryz.underlying110 rfl (by kernel_rfl) ?_))
     all_goals
      have hnn:nn=0:=by
       rw[←HNN.out]
       simp[bX]
      subst hnn
      go_ret
      exact⟨rfl,hP_z2,E_z2⟩
    ·go_wp2_with (first
      | fail
      | ((with_reducible refine aG 110 ?_);refine wpList_load_row rfl 110 _ rfl H0 rfl 110 #[.pointer (some ⟨G,o,none⟩),.bool rst] (0,0) _ hH_z2 Tryz.underlying110 rfl (by kernel_rfl) ?_))
     all_goals
      have hnn:nn=1:=by
       rw[←HNN.out]
       simp[bX]
      subst hnn
      go_ret
      exact⟨rfl,hP_z2,E_z2⟩
   ·by_cases ex18_1:x18=1
    ·subst ex18_1
     cases x44
     ·go_wp2_with (first
       | fail
       | ((with_reducible refine aG 110 ?_);refine wpList_load_row rfl 110 _ rfl H0 rfl 110 #[.pointer (some ⟨G,o,none⟩),.bool rst] (0,0) _ hH_z2 Tryz.underlying110 rfl (by kernel_rfl) ?_))
      all_goals
       have hnn:nn=0:=by
        rw[←HNN.out]
        simp[bX]
       subst hnn
       go_ret
       exact⟨rfl,hP_z2,E_z2⟩
     ·cases x50
      ·go_wp2_with (first
        | fail
        | ((with_reducible refine aG 110 ?_);refine wpList_load_row rfl 110 _ rfl H0 rfl 110 #[.pointer (some ⟨G,o,none⟩),.bool rst] (0,0) _ hH_z2 Tryz.underlying110 rfl (by kernel_rfl) ?_))
       all_goals
        have hnn:nn=0:=by
         rw[←HNN.out]
         simp[bX]
        subst hnn
        go_ret
        exact⟨rfl,hP_z2,E_z2⟩
      ·go_wp2_with (first
        | fail
        | ((with_reducible refine aG 110 ?_);refine wpList_load_row rfl 110 _ rfl H0 rfl 110 #[.pointer (some ⟨G,o,none⟩),.bool rst] (0,0) _ hH_z2 Tryz.underlying110 rfl (by kernel_rfl) ?_))
       all_goals
        have hnn:nn=3:=by
         rw[←HNN.out]
         simp[bX]
        subst hnn
        go_ret
        exact⟨rfl,hP_z2,E_z2⟩
    ·by_cases ex18_2:x18=2
     ·subst ex18_2
      cases x44
      ·cases x50
       ·cases x36
        ·go_wp2_with (first
          | fail
          | ((with_reducible refine aG 110 ?_);refine wpList_load_row rfl 110 _ rfl H0 rfl 110 #[.pointer (some ⟨G,o,none⟩),.bool rst] (0,0) _ hH_z2 Tryz.underlying110 rfl (by kernel_rfl) ?_))
         all_goals
          have hnn:nn=0:=by
           rw[←HNN.out]
           simp[bX]
          subst hnn
          go_ret
          exact⟨rfl,hP_z2,E_z2⟩
        ·go_wp2_with (first
          | fail
          | ((with_reducible refine aG 110 ?_);refine wpList_load_row rfl 110 _ rfl H0 rfl 110 #[.pointer (some ⟨G,o,none⟩),.bool rst] (0,0) _ hH_z2 Tryz.underlying110 rfl (by kernel_rfl) ?_))
         all_goals
          have hnn:nn=4:=by
           rw[←HNN.out]
           simp[bX]
          subst hnn
          go_ret
          exact⟨rfl,hP_z2,E_z2⟩
       ·go_wp2_with (first
         | fail
         | ((with_reducible refine aG 110 ?_);refine wpList_load_row rfl 110 _ rfl H0 rfl 110 #[.pointer (some ⟨G,o,none⟩),.bool rst] (0,0) _ hH_z2 Tryz.underlying110 rfl (by kernel_rfl) ?_))
        all_goals
         have hnn:nn=0:=by
          rw[←HNN.out]
          simp[bX]
         subst hnn
         go_ret
         exact⟨rfl,hP_z2,E_z2⟩
      ·cases x50
       ·cases x36
        ·go_wp2_with (first
          | fail
          | ((with_reducible refine aG 110 ?_);refine wpList_load_row rfl 110 _ rfl H0 rfl 110 #[.pointer (some ⟨G,o,none⟩),.bool rst] (0,0) _ hH_z2 Tryz.underlying110 rfl (by kernel_rfl) ?_))
         all_goals
          have hnn:nn=0:=by
           rw[←HNN.out]
           simp[bX]
          subst hnn
          go_ret
          exact⟨rfl,hP_z2,E_z2⟩
        ·go_wp2_with (first
          | fail
          | ((with_reducible refine aG 110 ?_);refine wpList_load_row rfl 110 _ rfl H0 rfl 110 #[.pointer (some ⟨G,o,none⟩),.bool rst] (0,0) _ hH_z2 Tryz.underlying110 rfl (by kernel_rfl) ?_))
         all_goals
          have hnn:nn=4:=by
           rw[←HNN.out]
           simp[bX]
          subst hnn
          go_ret
          exact⟨rfl,hP_z2,E_z2⟩
       ·go_wp2_with (first
         | fail
         | ((with_reducible refine aG 110 ?_);refine wpList_load_row rfl 110 _ rfl H0 rfl 110 #[.pointer (some ⟨G,o,none⟩),.bool rst] (0,0) _ hH_z2 Tryz.underlying110 rfl (by kernel_rfl) ?_))
        all_goals
         have hnn:nn=3:=by
          rw[←HNN.out]
          simp[bX]
         subst hnn
         go_ret
         exact⟨rfl,hP_z2,E_z2⟩
     ·have bx18_0:(x18 == 0)=false:=jM ex18_0
      have bx18_1:(x18 == 1)=false:=jM ex18_1
      have bx18_2:(x18 == 2)=false:=jM ex18_2
      have cx18_0:(x18 != 0)=true:=by simpa using ex18_0
      have cx18_1:(x18 != 1)=true:=by simpa using ex18_1
      have cx18_2:(x18 != 2)=true:=by simpa using ex18_2
      clear ex18_0 ex18_1 ex18_2
      go_wp2_with (first
       | fail
       | ((with_reducible refine aG 110 ?_);refine wpList_load_row rfl 110 _ rfl H0 rfl 110 #[.pointer (some ⟨G,o,none⟩),.bool rst] (0,0) _ hH_z2 Tryz.underlying110 rfl (by kernel_rfl) ?_))
      all_goals
       have hnn:nn=0:=by
        rw[←HNN.out]
        rw[bx18_0];rw[bx18_1];rw[bx18_2];simp[bX]
       subst hnn
       go_ret
       exact⟨rfl,hP_z2,E_z2⟩
  ·have bx86_0:(x86 == 0)=false:=jM ex86_0
   have cx86_0:(x86 != 0)=true:=by simpa using ex86_0
   clear ex86_0
   go_wp2_with (first
    | fail
    | ((with_reducible refine aG 110 ?_);refine wpList_load_row rfl 110 _ rfl H0 rfl 110 #[.pointer (some ⟨G,o,none⟩),.bool rst] (0,0) _ hH_z2 Tryz.underlying110 rfl (by kernel_rfl) ?_))
   all_goals
    have hnn:nn=1:=by
     rw[←HNN.out]
     rw[bx86_0];simp[bX]
    subst hnn
    go_ret
    exact⟨rfl,hP_z2,E_z2⟩
 ·by_cases ex18_0:x18=0
  ·subst ex18_0
   cases x36
   ·go_wp2_with (first
     | fail
     | ((with_reducible refine aG 110 ?_);refine wpList_load_row rfl 110 _ rfl H0 rfl 110 #[.pointer (some ⟨G,o,none⟩),.bool rst] (0,0) _ hH_z2 Tryz.underlying110 rfl (by kernel_rfl) ?_))
    all_goals
     have hnn:nn=2:=by
      rw[←HNN.out]
      simp[bX]
     subst hnn
     go_ret
     exact⟨rfl,hP_z2,E_z2⟩
   ·go_wp2_with (first
     | fail
     | ((with_reducible refine aG 110 ?_);refine wpList_load_row rfl 110 _ rfl H0 rfl 110 #[.pointer (some ⟨G,o,none⟩),.bool rst] (0,0) _ hH_z2 Tryz.underlying110 rfl (by kernel_rfl) ?_))
    all_goals
     have hnn:nn=1:=by
      rw[←HNN.out]
      simp[bX]
     subst hnn
     go_ret
     exact⟨rfl,hP_z2,E_z2⟩
  ·by_cases ex18_1:x18=1
   ·subst ex18_1
    cases x44
    ·go_wp2_with (first
      | fail
      | ((with_reducible refine aG 110 ?_);refine wpList_load_row rfl 110 _ rfl H0 rfl 110 #[.pointer (some ⟨G,o,none⟩),.bool rst] (0,0) _ hH_z2 Tryz.underlying110 rfl (by kernel_rfl) ?_))
     all_goals
      have hnn:nn=0:=by
       rw[←HNN.out]
       simp[bX]
      subst hnn
      go_ret
      exact⟨rfl,hP_z2,E_z2⟩
    ·cases x50
     ·go_wp2_with (first
       | fail
       | ((with_reducible refine aG 110 ?_);refine wpList_load_row rfl 110 _ rfl H0 rfl 110 #[.pointer (some ⟨G,o,none⟩),.bool rst] (0,0) _ hH_z2 Tryz.underlying110 rfl (by kernel_rfl) ?_))
      all_goals
       have hnn:nn=0:=by
        rw[←HNN.out]
        simp[bX]
       subst hnn
       go_ret
       exact⟨rfl,hP_z2,E_z2⟩
     ·go_wp2_with (first
       | fail
       | ((with_reducible refine aG 110 ?_);refine wpList_load_row rfl 110 _ rfl H0 rfl 110 #[.pointer (some ⟨G,o,none⟩),.bool rst] (0,0) _ hH_z2 Tryz.underlying110 rfl (by kernel_rfl) ?_))
      all_goals
       have hnn:nn=3:=by
        rw[←HNN.out]
        simp[bX]
       subst hnn
       go_ret
       exact⟨rfl,hP_z2,E_z2⟩
   ·by_cases ex18_2:x18=2
    ·subst ex18_2
     cases x44
     ·cases x50
      ·cases x36
       ·by_cases ex86_3:x86=3
        ·subst ex86_3
         by_cases ex11_0:x11=0
         ·subst ex11_0
          go_wp2_with (first
           | fail
           | ((with_reducible refine aG 110 ?_);refine wpList_load_row rfl 110 _ rfl H0 rfl 110 #[.pointer (some ⟨G,o,none⟩),.bool rst] (0,0) _ hH_z2 Tryz.underlying110 rfl (by kernel_rfl) ?_))
          all_goals
           have hnn:nn=2:=by
            rw[←HNN.out]
            simp[bX]
           subst hnn
           go_ret
           exact⟨rfl,hP_z2,E_z2⟩
         ·have bx11_0:(x11 == 0)=false:=jM ex11_0
          have cx11_0:(x11 != 0)=true:=by simpa using ex11_0
          clear ex11_0
          go_wp2_with (first
           | fail
           | ((with_reducible refine aG 110 ?_);refine wpList_load_row rfl 110 _ rfl H0 rfl 110 #[.pointer (some ⟨G,o,none⟩),.bool rst] (0,0) _ hH_z2 Tryz.underlying110 rfl (by kernel_rfl) ?_))
          all_goals
           have hnn:nn=0:=by
            rw[←HNN.out]
            rw[bx11_0];simp[bX]
           subst hnn
           go_ret
           exact⟨rfl,hP_z2,E_z2⟩
        ·have bx86_3:(x86 == 3)=false:=jM ex86_3
         have cx86_3:(x86 != 3)=true:=by simpa using ex86_3
         clear ex86_3
         go_wp2_with (first
          | fail
          | ((with_reducible refine aG 110 ?_);refine wpList_load_row rfl 110 _ rfl H0 rfl 110 #[.pointer (some ⟨G,o,none⟩),.bool rst] (0,0) _ hH_z2 Tryz.underlying110 rfl (by kernel_rfl) ?_))
         all_goals
          have hnn:nn=0:=by
           rw[←HNN.out]
           rw[bx86_3];simp[bX]
          subst hnn
          go_ret
          exact⟨rfl,hP_z2,E_z2⟩
       ·go_wp2_with (first
         | fail
         | ((with_reducible refine aG 110 ?_);refine wpList_load_row rfl 110 _ rfl H0 rfl 110 #[.pointer (some ⟨G,o,none⟩),.bool rst] (0,0) _ hH_z2 Tryz.underlying110 rfl (by kernel_rfl) ?_))
        all_goals
         have hnn:nn=4:=by
          rw[←HNN.out]
          simp[bX]
         subst hnn
         go_ret
         exact⟨rfl,hP_z2,E_z2⟩
      ·go_wp2_with (first
        | fail
        | ((with_reducible refine aG 110 ?_);refine wpList_load_row rfl 110 _ rfl H0 rfl 110 #[.pointer (some ⟨G,o,none⟩),.bool rst] (0,0) _ hH_z2 Tryz.underlying110 rfl (by kernel_rfl) ?_))
       all_goals
        have hnn:nn=0:=by
         rw[←HNN.out]
         simp[bX]
        subst hnn
        go_ret
        exact⟨rfl,hP_z2,E_z2⟩
     ·cases x50
      ·cases x36
       ·by_cases ex86_3:x86=3
        ·subst ex86_3
         by_cases ex11_0:x11=0
         ·subst ex11_0
          go_wp2_with (first
           | fail
           | ((with_reducible refine aG 110 ?_);refine wpList_load_row rfl 110 _ rfl H0 rfl 110 #[.pointer (some ⟨G,o,none⟩),.bool rst] (0,0) _ hH_z2 Tryz.underlying110 rfl (by kernel_rfl) ?_))
          all_goals
           have hnn:nn=2:=by
            rw[←HNN.out]
            simp[bX]
           subst hnn
           go_ret
           exact⟨rfl,hP_z2,E_z2⟩
         ·have bx11_0:(x11 == 0)=false:=jM ex11_0
          have cx11_0:(x11 != 0)=true:=by simpa using ex11_0
          clear ex11_0
          go_wp2_with (first
           | fail
           | ((with_reducible refine aG 110 ?_);refine wpList_load_row rfl 110 _ rfl H0 rfl 110 #[.pointer (some ⟨G,o,none⟩),.bool rst] (0,0) _ hH_z2 Tryz.underlying110 rfl (by kernel_rfl) ?_))
          all_goals
           have hnn:nn=0:=by
            rw[←HNN.out]
            rw[bx11_0];simp[bX]
           subst hnn
           go_ret
           exact⟨rfl,hP_z2,E_z2⟩
        ·have bx86_3:(x86 == 3)=false:=jM ex86_3
         have cx86_3:(x86 != 3)=true:=by simpa using ex86_3
         clear ex86_3
         go_wp2_with (first
          | fail
          | ((with_reducible refine aG 110 ?_);refine wpList_load_row rfl 110 _ rfl H0 rfl 110 #[.pointer (some ⟨G,o,none⟩),.bool rst] (0,0) _ hH_z2 Tryz.underlying110 rfl (by kernel_rfl) ?_))
         all_goals
          have hnn:nn=0:=by
           rw[←HNN.out]
           rw[bx86_3];simp[bX]
          subst hnn
          go_ret
          exact⟨rfl,hP_z2,E_z2⟩
       ·go_wp2_with (first
         | fail
         | ((with_reducible refine aG 110 ?_);refine wpList_load_row rfl 110 _ rfl H0 rfl 110 #[.pointer (some ⟨G,o,none⟩),.bool rst] (0,0) _ hH_z2 Tryz.underlying110 rfl (by kernel_rfl) ?_))
        all_goals
         have hnn:nn=4:=by
          rw[←HNN.out]
          simp[bX]
         subst hnn
         go_ret
         exact⟨rfl,hP_z2,E_z2⟩
      ·go_wp2_with (first
        | fail
        | ((with_reducible refine aG 110 ?_);refine wpList_load_row rfl 110 _ rfl H0 rfl 110 #[.pointer (some ⟨G,o,none⟩),.bool rst] (0,0) _ hH_z2 Tryz.underlying110 rfl (by kernel_rfl) ?_))
       all_goals
        have hnn:nn=3:=by
         rw[←HNN.out]
         simp[bX]
        subst hnn
        go_ret
        exact⟨rfl,hP_z2,E_z2⟩
    ·have bx18_0:(x18 == 0)=false:=jM ex18_0
     have bx18_1:(x18 == 1)=false:=jM ex18_1
     have bx18_2:(x18 == 2)=false:=jM ex18_2
     have cx18_0:(x18 != 0)=true:=by simpa using ex18_0
     have cx18_1:(x18 != 1)=true:=by simpa using ex18_1
     have cx18_2:(x18 != 2)=true:=by simpa using ex18_2
     clear ex18_0 ex18_1 ex18_2
     go_wp2_with (first
      | fail
      | ((with_reducible refine aG 110 ?_);refine wpList_load_row rfl 110 _ rfl H0 rfl 110 #[.pointer (some ⟨G,o,none⟩),.bool rst] (0,0) _ hH_z2 Tryz.underlying110 rfl (by kernel_rfl) ?_))
     all_goals
      have hnn:nn=0:=by
       rw[←HNN.out]
       rw[bx18_0];rw[bx18_1];rw[bx18_2];simp[bX]
      subst hnn
      go_ret
      exact⟨rfl,hP_z2,E_z2⟩
end Go.Proofs.YtpanapepcbbagaaGreat
