/- Part 26 of what BridgeHold stands on. No statement is proved here. -/
import Derived.BigQuiet
import Derived.ChangeSame
import Derived.Deep.Draws
import Derived.Deep.Fields
import Derived.Deep.MidRow
import Derived.Deep.Slices
import Derived.Laws.AppendOwn
import Derived.Laws.StructEq
import Derived.Lib.Hide
import Derived.LoopN
import Derived.OpenShut
import Derived.ProofKit
import Derived.WalkKit
import Derived.WideKeyArgs
import Derived.Test.YtpanapepcbbagaaGreatBpy
set_option linter.unusedVariables false
set_option linter.unusedSimpArgs false
set_option maxRecDepth 100000
set_option maxHeartbeats 8000000
namespace Go.Proofs.YtpanapepcbbagaaGreat
open Go.RowKit Go.BigFrame Go.WideShapes Go.ChangeShapes Go.Deep
theorem psel_cell{B:Br}(ho:B.ok):∀m,m≤B.np→∀i j,i<B.np→j<89→(psel B m).ps[i*89+j]?=if i<m then(stL B i (port B.ps i))[j]? else B.ps[i*89+j]?
 | 0,_,i,j,_,_=>by rw[if_neg (by omega)];rfl
 | m+1,hm,i,j,hi,hj=>by
  have IH:=psel_cell ho m (by omega)
  have okm:=psel_ok ho m (by omega)
  have hmk:m<(psel B m).np:=by rw[psel_np];omega
  have h89:=len89 okm hmk
  have hl':(stL B m (port (psel B m).ps m)).length=89:=tpL (stL_typed ho (br_typed okm hmk))
  have hp:port (psel B m).ps m=port B.ps m:=by
   apply List.ext_getElem?
   intro q
   by_cases hq:q<89
   ·rw[port_at hq,port_at hq,IH m q (by omega) hq,if_neg (by omega)]
   ·rw[List.getElem?_eq_none (by simp[port];omega),List.getElem?_eq_none (by simp[port];omega)]
  show((psel B m).setPort m (stL B m (port (psel B m).ps m))).ps[i*89+j]?=_
  rw[setPort_at hl' h89]
  by_cases him:i=m
  ·subst him
   rw[if_pos (by omega),if_pos (by omega),hp]
   congr 1
   omega
  ·rw[if_neg (by omega),IH i j hi hj]
   by_cases h2:i<m
   ·rw[if_pos h2,if_pos (by omega)]
   ·rw[if_neg h2,if_neg (by omega)]
section
variable {rst:Bool} {P:List Pt} {n:Nat}
def NB(rst:Bool)(P:List Pt):Br:=newA 7 rst 0 20 2 15 6 P
theorem nb_ok(hP:∀p∈P,PtR p):(NB rst P).ok:=newA_ok rfl rfl rfl rfl rfl rfl hP
theorem nb_cell{k j:Nat}{x:Value}(hk:k<P.length)(hx:(pL rst 20 2 15 (P.getD k default))[j]?=some x):(NB rst P).ps[k*89+j]?=some x:=newA_cell hk hx
theorem nb_gi{k j:Nat}{q:IntKind}{z:Int}(hk:k<P.length)(hx:(pL rst 20 2 15 (P.getD k default))[j]?=some (.int q z)):(NB rst P).gi k j=z:=by
 unfold Br.gi
 rw[nb_cell hk hx]
theorem nb_ki(hP:∀p∈P,PtR p)(hn:P.length=n):KI n 0 (fun _=>0) (NB rst P):=by
 subst hn
 refine⟨nb_ok hP,rfl,⟨rfl,rfl,rfl,rfl,rfl⟩,(by rw[show(NB rst P).hi 13=0 from rfl];omega),fun k hk=>?_,⟨[],⟨rfl,fun i x hx=>(by simp at hx)⟩,fun x hx=>(by cases hx),fun k hk=>?_⟩,Nat.le_refl _⟩
 ·unfold PI
  rw[nb_gi (q:=.i64) (z:=0) (j:=14) hk rfl,nb_gi (q:=.i64) (z:=0) (j:=64) hk rfl,nb_gi (q:=.i64) (z:=0) (j:=65) hk rfl,nb_gi (q:=.i64) (z:=0) (j:=66) hk rfl,nb_gi (q:=.i64) (z:=0) (j:=67) hk rfl,nb_gi (q:=.i64) (z:=0) (j:=78) hk rfl,nb_gi (q:=.i64) (z:=0) (j:=86) hk rfl,nb_gi (q:=.i64) (z:=0) (j:=82) hk rfl]
  omega
 ·rw[nb_gi (q:=.i64) (z:=0) (j:=14) hk rfl]
  simp
theorem nb_s0(hP:∀p∈P,PtR p)(hn:P.length=n)(hn0:0<n)(hn5:n≤5):S0 n 0 (fun _=>0) (NB rst P):=by
 have hK:=nb_ki (rst:=rst) hP hn
 refine⟨hK,fun i hi=>?_⟩
 obtain⟨B,hB⟩:∃B,NB rst P=B:=⟨_,rfl⟩
 have cell:∀k j x,k<P.length→(pL rst 20 2 15 (P.getD k default))[j]?=some x→B.ps[k*89+j]?=some x:=fun k j x hk hx=>hB▸nb_cell hk hx
 rw[hB]at hK ⊢
 have ho:=hK.ok
 have hany:anyR B B.np=true:=by
  rw[hK.np]
  obtain⟨m,rfl⟩:∃m,n=m+1:=⟨n - 1,by omega⟩
  unfold anyR
  have e:B.gb m 43=true:=by
   unfold Br.gb
   rw[cell m 43 (.bool true) (by omega) rfl]
  rw[e,Bool.or_true]
 have okN:=noR_ok ho (Nat.le_refl B.np)
 have npN:(noR B B.np).np=n:=(upd_np B 43 _ _).trans hK.np
 have ok2:(selB2 (noR B B.np)).ok:=selB2_ok okN (by rw[npN];omega) (fun k hk=>by
  rw[noR_gi ho (by decide) (by decide)]
  have:=hK.pt k (by rw[←npN];exact hk)
  unfold PI at this
  omega)
 obtain⟨D,hD⟩:∃D,selB2 (noR B B.np)=D:=⟨_,rfl⟩
 have hDp:D.ps=(noR B B.np).ps:=by rw[←hD];rfl
 have hDn:D.np=n:=by rw[←hD];exact npN
 rw[hD]at ok2
 have hs:(selF B).2=psel D n:=by
  unfold selF
  rw[if_pos hany,hD,hK.np]
 rw[hs]
 have hil:i<P.length:=by omega
 have iD:i<D.np:=by omega
 -- a cell of the port ahead of the choice
 have dc:∀j x,j<89→j≠43→(pL rst 20 2 15 (P.getD i default))[j]?=some x→(port D.ps i)[j]?=some x:=fun j x hj hne hx=>by
  rw[port_at hj,hDp]
  show(B.upd 43 (fun _=>.bool false) B.np).ps[i*89+j]?=_
  rw[upd_cell B (by decide) _ (by rw[ho.len];exact Nat.le_refl _) hj,if_neg (by omega)]
  exact cell i j x hil hx
 have d43:(port D.ps i)[43]?=some (.bool false):=by
  rw[port_at (by decide),hDp]
  show(B.upd 43 (fun _=>.bool false) B.np).ps[i*89+43]?=_
  rw[upd_cell B (by decide) _ (by rw[ho.len];exact Nat.le_refl _) (by decide),if_pos ⟨rfl,by rw[hK.np];exact hi⟩]
 have hl:=tpL (br_typed ok2 iD)
 have pc:∀j,j<89→(psel D n).ps[i*89+j]?=(stL D i (port D.ps i))[j]?:=fun j hj=>by
  rw[psel_cell ok2 n (by omega) i j iD hj,if_pos hi]
 have sg:∀j q z,j<89→(j≠44∧j≠88∧j≠50∧(j<73∨78≤j)∧(j<82∨86≤j))→(port D.ps i)[j]?=some (.int q z)→(psel D n).gi i j=z:=fun j q z hj hne hx=>by
  unfold Br.gi
  rw[pc j hj,stL_ne hl hne,hx]
 have sb:∀j z,j<89→(j≠44∧j≠88∧j≠50∧(j<73∨78≤j)∧(j<82∨86≤j))→(port D.ps i)[j]?=some (.bool z)→(psel D n).gb i j=z:=fun j z hj hne hx=>by
  unfold Br.gb
  rw[pc j hj,stL_ne hl hne,hx]
 have tl:(tellL D (port D.ps i)).length=89:=by
  unfold tellL
  exact len_set' (len_setL (len_setL hl (by exact(by decide:73+5≤89))) (by exact(by decide:82+4≤89)))
 have tn:∀j,(j<73∨78≤j)∧(j<82∨86≤j)→(tellL D (port D.ps i))[j]?=(port D.ps i)[j]?:=fun j hj=>by
  unfold tellL
  rw[get_ne (by omega),get_out (len_setL hl (by exact(by decide:73+5≤89))) (by exact(by decide:82+4≤89)) (by show j<82∨82+4≤j;omega),get_out hl (by exact(by decide:73+5≤89)) (by show j<73∨73+5≤j;omega)]
 have ch:stL D i (port D.ps i)=((tellL D (port D.ps i)).set 88 (.int .i64 0)).set 44 (.bool true):=by
  unfold stL chL
  have e86:pI (tellL D (port D.ps i)) 86=0:=pI_is ((tn 86 (by omega)).trans (dc 86 (.int .i64 0) (by decide) (by decide) rfl))
  rw[if_pos e86]
 have s44:(psel D n).gb i 44=true:=by
  unfold Br.gb
  rw[pc 44 (by decide),ch,get_same (len_set' tl) (by decide)]
 have s50:(psel D n).gb i 50=false:=by
  unfold Br.gb
  rw[pc 50 (by decide),ch,get_ne (by decide),get_ne (by decide),tn 50 (by omega),dc 50 (.bool false) (by decide) (by decide) rfl]
 have s88:(psel D n).gi i 88=0:=by
  unfold Br.gi
  rw[pc 88 (by decide),ch,get_ne (by decide),get_same tl (by decide)]
 have d32:=dc 32 (.bool (P.getD i default).ad) (by decide) (by decide) rfl
 have d4:=dc 4 (.bool (P.getD i default).ad) (by decide) (by decide) rfl
 have d17:=dc 17 (.int .i64 (if(P.getD i default).ad=true then 0 else 1)) (by decide) (by decide) rfl
 refine⟨⟨?_,?_,?_,?_,?_,?_,?_,?_,?_,?_,?_,s44,s50,s88,?_,?_,?_,?_,?_,?_,?_⟩,?_,?_⟩
 ·exact sb 2 false (by decide) (by omega) (dc 2 _ (by decide) (by decide) rfl)
 ·exact sb 35 false (by decide) (by omega) (dc 35 _ (by decide) (by decide) rfl)
 ·exact sb 36 false (by decide) (by omega) (dc 36 _ (by decide) (by decide) rfl)
 ·exact sg 6 .i64 3 (by decide) (by omega) (dc 6 _ (by decide) (by decide) rfl)
 ·exact sg 15 .i64 0 (by decide) (by omega) (dc 15 _ (by decide) (by decide) rfl)
 ·exact sg 9 .i64 3 (by decide) (by omega) (dc 9 _ (by decide) (by decide) rfl)
 ·exact sg 16 .i64 0 (by decide) (by omega) (dc 16 _ (by decide) (by decide) rfl)
 ·rw[sb 32 _ (by decide) (by omega) d32,sb 4 _ (by decide) (by omega) d4,sg 17 .i64 _ (by decide) (by omega) d17]
  cases (P.getD i default).ad
  ·exact .inr ⟨rfl,rfl⟩
  ·exact .inl ⟨rfl,rfl,rfl⟩
 ·exact sg 86 .i64 0 (by decide) (by omega) (dc 86 _ (by decide) (by decide) rfl)
 ·exact sg 18 .i64 0 (by decide) (by omega) (dc 18 _ (by decide) (by decide) rfl)
 ·exact sb 43 false (by decide) (by omega) d43
 ·exact sg 87 .i64 0 (by decide) (by omega) (dc 87 _ (by decide) (by decide) rfl)
 ·exact sb 29 false (by decide) (by omega) (dc 29 _ (by decide) (by decide) rfl)
 ·exact sb 28 false (by decide) (by omega) (dc 28 _ (by decide) (by decide) rfl)
 ·exact sb 27 false (by decide) (by omega) (dc 27 _ (by decide) (by decide) rfl)
 ·exact sg 20 .i64 0 (by decide) (by omega) (dc 20 _ (by decide) (by decide) rfl)
 ·exact sg 21 .i64 0 (by decide) (by omega) (dc 21 _ (by decide) (by decide) rfl)
 ·exact sg 8 .i64 2 (by decide) (by omega) (dc 8 _ (by decide) (by decide) rfl)
 ·exact sg 19 .i64 0 (by decide) (by omega) (dc 19 _ (by decide) (by decide) rfl)
 ·exact sb 25 true (by decide) (by omega) (dc 25 _ (by decide) (by decide) rfl)
end
def VB(w:World)(base:Nat)(c:Array Value)(B:Br):Prop :=
 ∃g cap cur s2 s3,c=(B.hd++[.slice (some ⟨g,0,none⟩) B.np cap,s2,s3]).toArray∧base≤g∧w.heap[g]?=some (.cells cur 60 (0,0))∧cur.size=cap*89∧B.np≤cap∧cap≤maxLen∧cur.toList.take (B.np*89)=B.ps∧w.ownsRow base 71 18 s2 B.no B.os∧w.ownsRow base 3 1 s3 B.nf B.fl
theorem own_from{w:World}{base m n:Nat}{e:TypeId}{v:Value}{xs:List Value}(h:w.ownsRow 0 e m v n xs)(hb:∀k,v.ownBlock=some k→base≤k):w.ownsRow base e m v n xs:=by
 refine⟨h.1,?_⟩
 rcases h.2 with hn|⟨g,cap,cur,rfl,hb0,rest⟩
 ·exact .inl hn
 ·exact .inr ⟨g,cap,cur,rfl,hb g rfl,rest⟩
theorem own_ge{w:World}{base m n k:Nat}{e:TypeId}{v:Value}{xs:List Value}(h:w.ownsRow base e m v n xs)(hk:v.ownBlock=some k):base≤k∧k<w.heap.size:=own_lt2 h hk
theorem own_zero{w:World}{base m n:Nat}{e:TypeId}{v:Value}{xs:List Value}(h:w.ownsRow base e m v n xs):w.ownsRow 0 e m v n xs:=by
 refine⟨h.1,?_⟩
 rcases h.2 with hn|⟨g,cap,cur,rfl,hb0,rest⟩
 ·exact .inl hn
 ·exact .inr ⟨g,cap,cur,rfl,Nat.zero_le _,rest⟩
theorem WB.vb{N X g:Nat}{w:World}{B:Br}(h:WB (fun n=>N≤n) X g B w):∃c,w.heap[X]?=some (.cells c 35 (0,0))∧VB w N c B:=by
 obtain⟨h1,h2,cap,cur,s2,s3,a,b,c,d,e,f,p,q,r,s⟩:=h
 exact⟨_,a,g,cap,cur,s2,s3,rfl,h2.1,b,c,d,e,f,own_from p (fun k hk=>(r k hk).1),own_from q (fun k hk=>(s k hk).1)⟩
theorem VB.wb{w:World}{base X:Nat}{c:Array Value}{B:Br}{N:Nat→Prop}(h:VB w base c B)(hX:w.heap[X]?=some (.cells c 35 (0,0)))(hN:∀n,base≤n→n<w.heap.size→N n)(hNX:N X):∃g,WB N X g B w:=by
 obtain⟨g,cap,cur,s2,s3,rfl,hb,a,b,d,e,f,p,q⟩:=h
 exact⟨g,⟨hNX,heap_lt hX⟩,⟨hN _ hb (heap_lt a),heap_lt a⟩,cap,cur,s2,s3,hX,a,b,d,e,f,own_zero p,own_zero q,fun k hk=>⟨hN _ (own_ge p hk).1 (own_ge p hk).2,(own_ge p hk).2⟩,fun k hk=>⟨hN _ (own_ge q hk).1 (own_ge q hk).2,(own_ge q hk).2⟩⟩
theorem VB.mut{w w':World}{base:Nat}{c:Array Value}{B:Br}{F:Nat→Prop}(h:VB w base c B)(hm:Mut F w w')(hF:∀n,base≤n→n<w.heap.size→¬F n):VB w' base c B:=by
 obtain⟨g,cap,cur,s2,s3,rfl,hb,a,b,d,e,f,p,q⟩:=h
 exact⟨g,cap,cur,s2,s3,rfl,hb,(hm.heap (heap_lt a) (hF g hb (heap_lt a))).trans a,b,d,e,f,own_mut p hm (fun k hk=>hF k (own_ge p hk).1 (own_ge p hk).2),own_mut q hm (fun k hk=>hF k (own_ge q hk).1 (own_ge q hk).2)⟩
theorem VB.sz{w:World}{base:Nat}{c:Array Value}{B:Br}(h:VB w base c B)(ho:B.ok):c.size=20∧c.toList.all (·.oneCell')=true:=by
 obtain⟨g,cap,cur,s2,s3,rfl,hb,a,b,d,e,f,p,q⟩:=h
 obtain⟨a2,c2,rfl⟩:=own_form2 p
 obtain⟨a3,c3,rfl⟩:=own_form2 q
 have hl:B.hd.length=17:=ho.hd.1
 have h1:B.hd.all (·.oneCell')=true:=List.all_eq_true.2 (fun u hu=>ho.hd.one u hu)
 refine⟨by simp[hl],?_⟩
 show(B.hd++[Value.slice (some ⟨g,0,none⟩) B.np cap,Value.slice a2 B.no c2,Value.slice a3 B.nf c3]).all (·.oneCell')=true
 rw[List.all_append,h1]
 rfl
theorem right_l{rst:Bool}{P:List Pt}(h:P.length≤32):RightP (NB rst P):=(newB_right (id:=7) (hold:=6) (rst:=rst) (P:=P) h).2 (by omega)
theorem ptsx{w w':World}{v:Value}{P:List Pt}(h:PtsAt w v P)(hx:Ext w w'):PtsAt w' v P:=RowAt.ext h hx
theorem live_any(rst:Bool)(v:Value)(P:List Pt)(w:World)(hP:PtsAt w v P)(hr:∀p∈P,PtR p)(h0:0<P.length)(h5:P.length≤5):
    Calls Tryz.prog 16 #[.bool rst,v,.slice none 0 0] w fun e w'=>∃c B,e=.returned (.tuple #[.agg c,.bool true])∧VB w' w.heap.size c B∧KI P.length 50000 (fun _=>0) B∧Ext w w':=by
 have HP:=hD hP
 have HR:=hD hr
 obtain⟨pa,pcap,rfl,-,-⟩:=hP
 clear hr
 go_enter Tryz.func16,Tryz.ntmps16
 go_wp2_with (first
  | fail
  | ((with_reducible refine at_alloc 35 ?_);refine al_zero rfl 35 rfl BrZ zero_br ?_
     intro RB w1 hq hsz hx
     have HRB:=hD hq
     have HX1:=hD hx
     have HRW:=hD (show w.heap.size≤RB from Nat.le_of_eq hsz)
     clear hq hsz hx)
  | ((with_reducible refine at_build 24 ?_);refine wpList_build2 rfl 24 _ rfl _ rfl _ bl_tw ?_))
 refine(setups_any w1 _ P (ptsx HP.out HX1.out) (by omega)).mono ?_
 rintro e w2 ⟨v2,rfl,hP2,hx2⟩
 have HP2:=hD hP2
 have HX2:=hD hx2
 clear hP2 hx2
 go_wp2_with fail
 refine(newbr_gen 7 0 20 2 15 6 rst v2 P w2 HP2.out (by omega) (by decide) (by decide) HR.out rfl rfl rfl rfl).mono ?_
 rintro e w3 ⟨c,ok,rfl,hok,hnew,hx3⟩
 obtain rfl:ok=true:=hok.2 (right_l (by omega))
 have HSZ:=hD hnew.sz
 rcases hnew with ⟨-,u,hc,hown⟩|⟨h,-⟩
 case inr=>cases h
 have HC:=hD hc
 have HO3:=hD hown
 have HX3:=hD hx3
 clear hok hown hx3 hc
 go_wp2_with (first
  | fail
  | ((with_reducible refine at_alloc 35 ?_);refine al_zero rfl 35 rfl BrZ zero_br ?_
     intro X w4 hq hsz hx)
  | ((with_reducible refine at_store 35 ?_);refine st_all rfl rfl 35 _ _ rfl X c BrZ 35 rfl rfl hq HSZ.out.1 size_brg HSZ.out.2 ?_
     intro w5 hq5 hm5
     have HQ5:=hD hq5
     have HO5:=hD (own_mut (ownR_ext HO3.out hx) hm5 (fun g h1 h2=>by have h3:g=X:=h2;have h4:=(own_lt2 HO3.out h1).2;omega))
     have HX5:=hD (show Ext w2 w5 from HX3.out.trans (hx.mutE hm5 (fun g hg h=>by have h2:g=X:=h;omega)))
     have HXN:=hD (show w2.heap.size≤X from by have:=HX3.out.size;omega)
     clear hq hsz hx hq5 hm5 HO3 HX3))
 have hRB5:=((HX2.out.trans HX5.out).block RB (heap_lt HRB.out)).trans HRB.out
 have HRN:=hD (show RB<w2.heap.size from nL (heap_lt HRB.out) HX2.out.size)
 obtain⟨g,hB⟩:=wb_new (N:=fun n=>w2.heap.size≤n) (B:=NB rst P) (HC.out▸HQ5.out) HO5.out h0 (fun n hn=>hn) HXN.out ⟨rfl,rfl,rfl,rfl⟩
 refine(run_un (M:=0) h5 h0 (by decide) (NB rst P) w5 (fun n hn=>Nat.le_trans HX5.out.size hn) hB (nb_s0 HR.out rfl h0 h5)).mono ?_
 rintro e w6 ⟨k,B',rfl,hB6,hm6,hK⟩
 have HRB6:=hD ((hm6.heap (heap_lt hRB5) (fun h=>by have h1:w2.heap.size≤RB:=h;have h2:=HRN.out;omega)).trans hRB5)
 obtain⟨c6,hrow,hvb⟩:=WB.vb hB6
 have HSZ6:=hD (hvb.sz hK.ok)
 have HROW:=hD hrow
 have HVB:=hD hvb
 have HK:=hD hK
 have HX6:=hD (show Ext w w6 from((HX1.out.trans HX2.out).trans HX5.out).mutE hm6 (fun j hj h=>by have h2:w2.heap.size≤j:=h;have h3:=(HX1.out.trans HX2.out).size;omega))
 clear hB hB6 hm6 hK hrow hvb hRB5 HQ5 HO5 HXN HC HSZ
 go_wp2_with fail
 refine wp_loop_rounds 1 ?_
 rw[rounds_succ]
 go_wp2_with (first
  | fail
  | ((with_reducible refine at_load 35 ?_);refine wpList_load_row rfl 35 _ rfl X rfl 35 c6 (0,0) _ HROW.out Tryz.underlying35 rfl (by rw[HSZ6.out.1];exact size_brg) ?_)
  | ((with_reducible refine at_store 35 ?_);refine st_all rfl rfl 35 _ _ rfl RB c6 BrZ 35 rfl rfl HRB6.out HSZ6.out.1 size_brg HSZ6.out.2 ?_
     intro wz hqz hmz
     have HRZ:=hD hqz
     have HMZ:=hD hmz
     clear hqz hmz))
 refine bodyPost_ret (results_crt rfl _ _ RB _ _ (0,0) _ rfl HRZ.out Tryz.underlying35 rfl (by rw[HSZ6.out.1];exact size_brg)) rfl ?_
 refine⟨c6,B',rfl,?_,HK.out,HX6.out.mutE HMZ.out (fun n h1 h2=>by have h3:n=RB:=h2;have h4:=HRW.out;omega)⟩
 have hv:=HVB.out.mut HMZ.out (fun n h1 _ h2=>by have h3:n=RB:=h2;have h4:=HRN.out;omega)
 obtain⟨g',cap,cur,s2,s3,e1,hb,a,b,d,e,f,p,q⟩:=hv
 have hw:w.heap.size≤w2.heap.size:=(HX1.out.trans HX2.out).size
 exact⟨g',cap,cur,s2,s3,e1,Nat.le_trans hw hb,a,b,d,e,f,own_base p hw,own_base q hw⟩
theorem told18_any(m:List Value)(hm:Typed ML m)(w:World):Calls Tryz.prog 15 #[.agg m.toArray] w fun e w'=>∃d,e=.returned (.bool d)∧(d=true→MT m)∧Ext w w':=by
 have hml:m.length=17:=hm.1
 obtain⟨a,ha,-⟩:=hm.int 13 .i64 rfl
 obtain⟨b,hb,-⟩:=hm.int 14 .i64 rfl
 obtain⟨c,hc,-⟩:=hm.int 15 .i64 rfl
 obtain⟨d,hd,-⟩:=hm.int 16 .i64 rfl
 have HC:=hD (And.intro ha (And.intro hb (And.intro hc hd)))
 have HT:=hD hm
 obtain⟨x1,h1⟩:∃x,decide (a≥0)=x:=⟨_,rfl⟩
 obtain⟨x2,h2⟩:∃x,decide (a≤256)=x:=⟨_,rfl⟩
 obtain⟨x3,h3⟩:∃x,decide (b≥0)=x:=⟨_,rfl⟩
 obtain⟨x4,h4⟩:∃x,decide (b≤256)=x:=⟨_,rfl⟩
 obtain⟨x5,h5⟩:∃x,decide (c≥0)=x:=⟨_,rfl⟩
 obtain⟨x6,h6⟩:∃x,decide (c≤256)=x:=⟨_,rfl⟩
 obtain⟨x7,h7⟩:∃x,decide (d≥0)=x:=⟨_,rfl⟩
 obtain⟨x8,h8⟩:∃x,decide (d≤256)=x:=⟨_,rfl⟩
 clear ha hb hc hd
 go_enter Tryz.func15,Tryz.ntmps15
 go_upto_region 2 with (first
  | fail
  | ((with_reducible refine at_box 46 ?_);refine bx_row rfl 46 _ rfl m.toArray rfl ?_
     intro Y w1 hY hsz hx1
     have HR:=hD (show w1.rangeAt Y 13 [.int .i64 a,.int .i64 b,.int .i64 c,.int .i64 d]from fun j v hv=>by
      rw[cell_row hY,List.getElem?_toArray]
      match j,hv with
      | 0,hv=>exact HC.out.1.trans hv
      | 1,hv=>exact HC.out.2.1.trans hv
      | 2,hv=>exact HC.out.2.2.1.trans hv
      | 3,hv=>exact HC.out.2.2.2.trans hv
      | j+4,hv=>simp at hv)
     have HX:=hD hx1
     clear hY hsz hx1)
  | ((with_reducible refine at_load 24 ?_);refine wpList_load_mid rfl 24 _ rfl Y 13 rfl [.int .i64 a,.int .i64 b,.int .i64 c,.int .i64 d] _ HR.out Tryz.underlying24 rfl (by kernel_rfl) ?_)
  | ((with_reducible refine at_alloc 24 ?_);refine al_zero rfl 24 rfl TmZ zero_tw ?_
     intro T w2 hq hsz hx)
  | ((with_reducible refine at_store 24 ?_);refine st_at rfl rfl 24 _ _ rfl T 0 _ #[.int .i64 a,.int .i64 b,.int .i64 c,.int .i64 d] TmZ #[.int .i64 a,.int .i64 b,.int .i64 c,.int .i64 d] 24 rfl rfl rfl hq (by exact(by decide:0+4≤4)) (by kernel_rfl) rfl rfl ?_
     intro w3 hq3 hm3
     have t0:w3.cell? ⟨T,0,none⟩=some (.int .i64 a):=by rw[cell_row hq3];rfl
     have t1:w3.cell? ⟨T,1,none⟩=some (.int .i64 b):=by rw[cell_row hq3];rfl
     have t2:w3.cell? ⟨T,2,none⟩=some (.int .i64 c):=by rw[cell_row hq3];rfl
     have t3:w3.cell? ⟨T,3,none⟩=some (.int .i64 d):=by rw[cell_row hq3];rfl
     have HX3:=hD (HX.out.trans (hx.mutE hm3 (fun g hg h=>by have h2:g=T:=h;omega)))
     clear hq hsz hx hq3 hm3))
 cases x1
 ·go_wp2_with fail
  go_ret
  exact⟨_,rfl,(fun h=>by cases h),HX3.out⟩
 cases x2
 ·go_wp2_with fail
  go_ret
  exact⟨_,rfl,(fun h=>by cases h),HX3.out⟩
 cases x3
 ·go_wp2_with fail
  go_ret
  exact⟨_,rfl,(fun h=>by cases h),HX3.out⟩
 cases x4
 ·go_wp2_with fail
  go_ret
  exact⟨_,rfl,(fun h=>by cases h),HX3.out⟩
 cases x5
 ·go_wp2_with fail
  go_ret
  exact⟨_,rfl,(fun h=>by cases h),HX3.out⟩
 cases x6
 ·go_wp2_with fail
  go_ret
  exact⟨_,rfl,(fun h=>by cases h),HX3.out⟩
 cases x7
 ·go_wp2_with fail
  go_ret
  exact⟨_,rfl,(fun h=>by cases h),HX3.out⟩
 have g1:=of_decide_eq_true h1
 have g2:=of_decide_eq_true h2
 have g3:=of_decide_eq_true h3
 have g4:=of_decide_eq_true h4
 have g5:=of_decide_eq_true h5
 have g6:=of_decide_eq_true h6
 have g7:=of_decide_eq_true h7
 have HG:=hD (And.intro g1 (And.intro g2 (And.intro g3 (And.intro g4 (And.intro g5 (And.intro g6 g7))))))
 clear g1 g2 g3 g4 g5 g6 g7
 cases x8
 ·go_wp2_with fail
  go_ret
  exact⟨_,rfl,(fun h=>by cases h),HX3.out⟩
 have H8:=hD (of_decide_eq_true h8)
 go_wp2_with fail
 go_ret
 refine⟨_,rfl,(fun _=>⟨HT.out,fun j hj hj2=>?_⟩),HX3.out⟩
 obtain⟨g1,g2,g3,g4,g5,g6,g7⟩:=HG.out
 have g8:=H8.out
 obtain⟨c1,c2,c3,c4⟩:=HC.out
 rcases(by omega:j=13∨j=14∨j=15∨j=16)with rfl|rfl|rfl|rfl
 ·exact⟨a,c1,g1,g2⟩
 ·exact⟨b,c2,g3,g4⟩
 ·exact⟨c,c3,g5,g6⟩
 ·exact⟨d,c4,g7,g8⟩
end Go.Proofs.YtpanapepcbbagaaGreat
namespace Go.Proofs.YtpanapepcbbagaaGreat
open Go.RowKit Go.BigFrame Go.WideShapes Go.ChangeShapes Go.WideElems Go.ChangeAt Go.Deep
theorem ownK:ownKnob Tryz.prog.godebug=none:=by kernel_rfl
theorem closes{H:Type}{enc:TypeId × Value→H}{P:Program}{f:Func}{s:ChangeSpec}{apart fresh handsOn again:Bool}{W W':World}{args:Array Value}{v:Value}{ds gs:List (DataW H)}{before pa pv:List MemPlace}(hW:DataW.Whole enc P f.params.toList s.vars apart W args.toList ds gs before)(hres:∀(b:Nat) (sp:Nat→Bool) (hd:Bool),DataW.TrodAll enc P W' b sp hd f.resultTypes.toList (v.resultList f.resultTypes.size) (s.fn H (ds++gs)).results [])(hargs:∀sp:Nat→Bool,(∀p∈before,sp p.block=true)→DataW.TrodAll enc P W' 0 sp true f.params.toList args.toList (s.fn H (ds++gs)).args pa)(hvars:∀sp:Nat→Bool,(∀p∈before,sp p.block=true)→DataW.TrodVars enc P W' sp s.vars (s.fn H (ds++gs)).vars pv)(hps:before=pa++pv)(hb:Below W.heap.size W W')(hok:∀(j:Nat) (t:TypeId) (r:Value),f.resultTypes[j]?=some t→(v.resultList f.resultTypes.size)[j]?=some r→Value.okWide P W' .any 0 t r):
    s.post enc P f apart fresh handsOn again W args v W':=by
 have lt:∀p∈before,p.block<W.heap.size:=fun p hp=>hW.lt p hp
 have old:∀p∈before,(fun b=>decide (b<W.heap.size)) p.block=true:=fun p hp=>decide_eq_true (lt p hp)
 have keep:W.keptBut W' fun p=>p∈before∧(p∈([]:List MemPlace)∨p∈pa++pv) :=
  World.keptBut_mono (fun p hp=>⟨hp,Or.inr (hps▸hp)⟩) (hb.frame (·∈before))
 refine⟨ds,gs,before,[],pa,pv,hW,hres _ _ _,hargs _ old,hvars _ old,?_,fun _=>?_⟩
 ·refine World.keptBut_mono (fun p hp=>⟨hp.1,?_⟩) keep
  rcases List.mem_append.1 (hps▸hp.1)with h|h
  ·exact Or.inr (Or.inl h)
  ·exact Or.inr (Or.inr h)
 ·obtain ⟨_,_,_,_,_,hz,hn⟩:=hW
  refine⟨hok,_,_,([]++pa)++pv,⟨[]++pa,pv,trodAll_append (hargs _ (fun _ _=>rfl)) (hres _ _ _),hvars _ (fun _ _=>rfl),rfl,?_,?_⟩,?_⟩
  ·intro b off hp
   have hin:MemPlace.cell b off∈before:=by rw[hps];simpa using hp
   rw[hb.frozen (lt _ hin)]
   exact hz b off hin
  ·intro ha
   have:=hn ha
   rw[hps]at this
   simpa using this
  ·intro p hp _
   rw[hps]
   simpa using hp
theorem carry_all{H:Type}{enc:TypeId × Value→H}{P:Program}(hl:laidOutB P=true){W W':World}(hb:Ext W W')(sp:Nat→Bool):
    ∀ (ts:List TypeId) (vs:List Value) (ds:List (DataW H)) (ps:List MemPlace),(ts.all fun t=>P.readableRec t && decide (t<P.types.size))=true →
     DataW.TrodAll enc P W 0 (fun _=>true) true ts vs ds ps→(∀p∈ps,p.block<W.heap.size)→(∀p∈ps,sp p.block=true)→DataW.TrodAll enc P W' 0 sp true ts vs ds ps
 | [],vs,ds,ps,_,h,_,_=>by
  obtain⟨rfl,rfl,rfl⟩:=trodAll_nil h
  exact trodAll_mk0
 | t :: ts,vs,ds,ps,hts,h,hlt,hsp=>by
  simp only[List.all_cons,Bool.and_eq_true,decide_eq_true_eq]at hts
  obtain⟨v,vs',d,ds',p,q,rfl,rfl,rfl,h0,r0⟩:=trodAll_cons h
  refine trodAll_cons_mk (Trod_stays hl hts.1.1 hts.1.2 h0 (fun x hx=>Below.same hb (hlt x (by simp[hx]))) (fun x hx=>hsp x (by simp[hx]))) ?_
  exact carry_all hl hb sp ts vs' ds' q (by simpa using hts.2) r0 (fun x hx=>hlt x (by simp[hx])) (fun x hx=>hsp x (by simp[hx]))
theorem ends{H:Type}{enc:TypeId × Value→H}{P:Program}{k:FuncId}{f:Func}{s:ChangeSpec}{tb:TypeId}(hl:laidOutB P=true)(hts:(f.params.toList.all fun t=>P.readableRec t && decide (t<P.types.size))=true)(hv:s.vars=[])(hres:f.resultTypes=#[tb])(htb:P.underlying tb=some .bool){W:World}{args:Array Value}{ds gs:List (DataW H)}{before:List MemPlace}(hW:DataW.Whole enc P f.params.toList s.vars false W args.toList ds gs before)(hspec:s.fn H (ds++gs)={ results:=[.lit (.bool true)],args:=ds })(walk:Calls P k args W fun e w'=>e=.returned (.bool true)∧Ext W w'):
    Calls P k args W fun e W'=>∃v,e=.returned v∧s.post enc P f false true false false W args v W':=by
 refine walk.mono fun e W' ⟨he,hb⟩=>⟨_,he,?_⟩
 have hW':=hW
 obtain⟨p,q,hA,hV,rfl,_,_⟩:=hW
 have hV':=hV
 rw[hv]at hV
 obtain⟨rfl,rfl⟩:=trodVars_none hV
 refine closes (pa:=p) (pv:=[]) hW' ?_ ?_ ?_ rfl hb (ok_one hres rfl (okWide_bool_mk htb _))
 ·intro b sp hd
  rw[hspec,hres]
  exact trodAll_cons_mk (shut_bool htb _) trodAll_mk0
 ·intro sp hsp
  rw[hspec]
  exact carry_all hl hb sp _ _ _ _ hts hA (fun x hx=>hW'.lt x (by simp[hx])) (fun x hx=>hsp x (by simp[hx]))
 ·intro sp _
  rw[hspec,hv]
  rfl
theorem laidO:laidOutB Tryz.prog=true:=by kernel_rfl
section
variable {P:Program}
variable {H:Type} {enc:TypeId × Value→H} {w:World} {base:Nat} {spare:Nat→Bool} {held:Bool}
def layFs(F:TypeId→Option (List (Option IntKind))):List Field→Nat→Option (List (Option IntKind))
 | [],_=>some []
 | f :: fs, off => if f.name ≠ "_" ∧ f.offset = off then (F f.type).bind fun l => (layFs F fs (off + l.length)).map (l ++ ·) else none
def lay(P:Program):Nat→TypeId→Option (List (Option IntKind))
 | 0,_=>none
 | d+1,t =>
  match P.underlying t with
  | some .bool=>if(P.info? t).map (·.size)=some 1 then some [none]else none
  | some (.int k)=>if(P.info? t).map (·.size)=some 1 then some [some k]else none
  | some (.struct fs)=>(layFs (lay P d) fs.toList 0).bind fun l=>if P.stoodInHeld t=false∧(P.info? t).map (·.size)=some l.length then some l else none
  | _=>none
theorem Typed.part{l l2:List (Option IntKind)}{cs:List Value}(h:Typed (l++l2) cs):Typed l (cs.take l.length)∧Typed l2 (cs.drop l.length):=by
 have hlen:cs.length=l.length+l2.length:=by simpa using h.1
 refine⟨⟨by simp;omega,fun j k hj=>?_⟩,⟨by simp;omega,fun j k hj=>?_⟩⟩
 ·have hl:j<l.length:=(List.getElem?_eq_some_iff.1 hj).1
  obtain⟨v,hv,ho⟩:=h.2 j k (by rw[List.getElem?_append_left hl];exact hj)
  exact⟨v,by rw[List.getElem?_take];simp[hl,hv],ho⟩
 ·obtain⟨v,hv,ho⟩:=h.2 (l.length+j) k (by rw[List.getElem?_append_right (by omega)];simpa using hj)
  exact⟨v,by simpa using hv,ho⟩
theorem layFs_cons{F:TypeId→Option (List (Option IntKind))}{f:Field}{fs:List Field}{off:Nat}{l:List (Option IntKind)}(h:layFs F (f :: fs) off=some l):
    f.name ≠ "_" ∧ f.offset = off ∧ ∃ l1 l2, F f.type = some l1 ∧ layFs F fs (off + l1.length) = some l2 ∧ l = l1 ++ l2 := by
 simp only[layFs]at h
 split at h
 ·rename_i hc
  obtain⟨l1,h1,h2⟩:=Option.bind_eq_some_iff.1 h
  obtain⟨l2,h3,h4⟩:=Option.map_eq_some_iff.1 h2
  exact⟨hc.1,hc.2,l1,l2,h1,h3,h4.symm⟩
 ·cases h
theorem lay_struct{d:Nat}{t:TypeId}{fs:Array Field}{l:List (Option IntKind)}(hu:P.underlying t=some (.struct fs))(h:lay P (d+1) t=some l):
    layFs (lay P d) fs.toList 0=some l∧P.stoodInHeld t=false∧(P.info? t).map (·.size)=some l.length:=by
 simp only[lay,hu]at h
 obtain⟨l1,h1,h2⟩:=Option.bind_eq_some_iff.1 h
 split at h2
 ·rename_i hc
  cases h2
  exact⟨h1,hc.1,hc.2⟩
 ·cases h2
theorem lay_size{d:Nat}{t:TypeId}{l:List (Option IntKind)}(h:lay P d t=some l):(P.info? t).map (·.size)=some l.length:=by
 cases d with
 | zero=>simp[lay]at h
 | succ d =>
  cases hu:P.underlying t with
  | none=>simp[lay,hu]at h
  | some q =>
   cases q<;>simp[lay,hu]at h
   case bool=>obtain⟨h1,rfl⟩:=h;simpa using h1
   case int=>obtain⟨h1,rfl⟩:=h;simpa using h1
   case struct fs =>
    obtain⟨l1,h1,h2⟩:=Option.bind_eq_some_iff.1 h
    split at h2
    ·rename_i hc
     cases h2
     simpa using hc.2
    ·cases h2
theorem lay_cells{d:Nat}{t:TypeId}{l:List (Option IntKind)}(h:lay P d t=some l):P.cellsOf t=l.length:=by
 simp[Program.cellsOf,lay_size h]
theorem fs_typed{d n:Nat}{cs:List Value}(IH:∀(t:TypeId) (l:List (Option IntKind)) (cs:List Value) (x:DataW H × List MemPlace),lay P d t=some l→DataW.trod enc P w base spare held n t cs=some x→Typed l cs):
    ∀(fs:List Field) (off:Nat) (l:List (Option IntKind)),layFs (lay P d) fs off=some l→(∀f∈fs,∃y,DataW.trod enc P w base spare held n f.type ((cs.drop f.offset).take (P.cellsOf f.type))=some y)→Typed l ((cs.drop off).take l.length)
 | [],off,l,h,_=>by
  simp only[layFs]at h
  cases h
  exact⟨by simp,fun j k hj=>by simp at hj⟩
 | f :: fs,off,l,h,hy=>by
  obtain⟨_,ho,l1,l2,h1,h2,rfl⟩:=layFs_cons h
  obtain⟨y,hy1⟩:=hy f (by simp)
  have t1:=IH f.type l1 _ y h1 hy1
  rw[lay_cells h1,ho]at t1
  have t2:=fs_typed IH fs (off+l1.length) l2 h2 (fun g hg=>hy g (by simp[hg]))
  have:=t1.append t2
  rw[List.length_append,List.take_add,List.drop_drop]
  exact this
theorem trod_typed:∀(d:Nat) (t:TypeId) (l:List (Option IntKind)) (n:Nat) (cs:List Value) (x:DataW H × List MemPlace),lay P d t=some l→DataW.trod enc P w base spare held n t cs=some x→Typed l cs
 | 0,_,_,_,_,_,h,_=>by simp[lay]at h
 | d+1,t,l,n,cs,x,h,hx=>by
  cases hu:P.underlying t with
  | none=>simp[lay,hu]at h
  | some q =>
   have h':=h
   cases q<;>simp[lay,hu]at h
   case bool =>
    obtain⟨_,rfl⟩:=h
    obtain⟨b,rfl,_⟩:=DataW.trod_bool hu hx
    refine⟨rfl,fun j k hj=>?_⟩
    match j,hj with
    | 0,hj=>cases hj;exact⟨_,rfl,b,rfl⟩
   case int k =>
    obtain⟨_,rfl⟩:=h
    obtain⟨z,rfl,_,hz⟩:=DataW.trod_int hu hx
    refine⟨rfl,fun j k' hj=>?_⟩
    match j,hj with
    | 0,hj=>cases hj;exact⟨_,rfl,z,rfl,hz⟩
   case struct fs =>
    obtain⟨h1,_,hz⟩:=lay_struct hu h'
    obtain⟨xs,m,_,_,hl,hlen,hf⟩:=DataW.trod_struct hu hx
    have hl':cs.length=l.length:=by rw[hl];exact lay_cells h'
    have:=fs_typed (cs:=cs) (fun t l cs x h hx=>trod_typed d t l m cs x h hx) fs.toList 0 l h1 (fun f hf'=>by
     obtain⟨i,hi,rfl⟩:=List.getElem_of_mem hf'
     have hi':i<fs.size:=by simpa using hi
     have:=hf i fs[i] (by simp[hi'])
     rw[List.getElem?_eq_getElem (by omega)]at this
     exact⟨_,this⟩)
    rw[List.drop_zero,List.take_of_length_le (by omega)]at this
    exact this
end
section
variable {P:Program} {H:Type} {enc:TypeId × Value→H} {w:World}
theorem open_row{d n:Nat}{t e:TypeId}{l:List (Option IntKind)}{c:Value}{x:DataW H × List MemPlace}(ht:P.underlying t=some (.slice e))(he:lay P d e=some l)(hl:0<l.length)(h:DataW.trod enc P w 0 (fun _=>true) true n t [c]=some x):∃m xs,IsRow w l.length c m xs∧RowTyped l m xs:=by
 rcases DataW.trod_slice ht h with ⟨hc,_⟩|⟨a,len,cap,elems,rest,k,_,hc,_,_,hlc,hm,hlen,hel,_,_⟩
 ·refine⟨0,[],⟨by simp,.inl ⟨rfl,.inl (by simpa using hc)⟩⟩,by simp,fun i hi=>by omega⟩
 ·have hc':c=.slice (some a) len cap:=by simpa using hc
  rw[lay_cells he]at hel
  by_cases h0:len=0
  ·subst h0
   exact⟨0,[],⟨by simp,.inl ⟨rfl,.inr ⟨a,cap,hc'⟩⟩⟩,by simp,fun i hi=>by omega⟩
  ·have each:∀i,i<len→∃cs,(∀j,j<l.length→w.cell? ((a.add (i*l.length)).add j)=cs[j]?)∧Typed l cs:=by
    intro i hi
    have:=hel i hi
    rw[List.getElem?_eq_getElem (by omega)]at this
    obtain⟨cs,h1,h2⟩:=Option.bind_eq_some_iff.1 this
    obtain⟨_,_,h3⟩:=World.cells?_some h1
    exact⟨cs,h3,trod_typed d e l k cs _ he h2⟩
   obtain⟨b,off,spot⟩:=a
   have hspot:spot=none:=by
    obtain⟨cs,h1,h2⟩:=each 0 (by omega)
    have:=h1 0 hl
    obtain⟨v,hv⟩:∃v,cs[0]?=some v:=⟨cs[0]'(by rw[h2.1];exact hl),by simp⟩
    rw[hv]at this
    simpa[Addr.add]using World.cell?_spot this
   subst hspot
   have cell:∀i,i<len→∃cs,(∀j,j<l.length→w.cell? ⟨b,off+(i*l.length+j),none⟩=cs[j]?)∧Typed l cs:=by
    intro i hi
    obtain⟨cs,h1,h2⟩:=each i hi
    refine⟨cs,fun j hj=>?_,h2⟩
    have:=h1 j hj
    rw[Addr.add_mid,Addr.add_mid,Nat.add_assoc]at this
    exact this
   have hb:b<w.heap.size:=by
    obtain⟨cs,h1,h2⟩:=cell 0 (by omega)
    have:=h1 0 hl
    obtain⟨v,hv⟩:∃v,cs[0]?=some v:=⟨cs[0]'(by rw[h2.1];exact hl),by simp⟩
    rw[hv]at this
    exact World.block_lt_of_cell? w _ this
   have part:∀i,i<len→Typed l ((((List.range (len*l.length)).map fun j=>(w.cell? ⟨b,off+j,none⟩).getD undef).drop (i*l.length)).take l.length)∧∀j,j<l.length→∃v,w.cell? ⟨b,off+(i*l.length+j),none⟩=some v:=by
    intro i hi
    obtain⟨cs,h1,h2⟩:=cell i hi
    have hle:(i+1)*l.length≤len*l.length:=Nat.mul_le_mul_right _ hi
    rw[Nat.add_mul,Nat.one_mul]at hle
    have e:(((List.range (len*l.length)).map fun j=>(w.cell? ⟨b,off+j,none⟩).getD undef).drop (i*l.length)).take l.length=cs:=by
     apply List.ext_getElem?
     intro j
     by_cases hj:j<l.length
     ·have hr:i*l.length+j<len*l.length:=by omega
      rw[List.getElem?_take,if_pos hj,List.getElem?_drop,List.getElem?_map,List.getElem?_range hr]
      simp only[Option.map_some]
      rw[h1 j hj,List.getElem?_eq_getElem (by rw[h2.1];exact hj)]
      rfl
     ·rw[List.getElem?_eq_none (by simp;omega),List.getElem?_eq_none (by rw[h2.1];omega)]
    refine⟨e▸h2,fun j hj=>⟨cs[j]'(by rw[h2.1];exact hj),?_⟩⟩
    rw[h1 j hj]
    simp
   refine⟨len,(List.range (len*l.length)).map fun j=>(w.cell? ⟨b,off+j,none⟩).getD undef,⟨by simp,.inr ⟨b,off,cap,hc',by omega,hlc,hm,hb,fun j v hv=>?_⟩⟩,by simp,fun i hi=>(part i hi).1⟩
   have hj:j<len*l.length:=by simpa using(List.getElem?_eq_some_iff.1 hv).1
   have hi:j / l.length<len:=Nat.div_lt_of_lt_mul (by rw[Nat.mul_comm];exact hj)
   obtain⟨u,hu⟩:=(part _ hi).2 (j % l.length) (Nat.mod_lt _ hl)
   have e:j / l.length*l.length+j % l.length=j:=by rw[Nat.mul_comm];exact Nat.div_add_mod j _
   rw[e]at hu
   simp[List.getElem?_map,List.getElem?_range hj,hu]at hv
   rw[hu,hv]
end
theorem flatT_cons(h:Pt)(l:List Pt):flatT (h :: l)=h.L++flatT l:=by simp[flatT]
def SusAt(w:World)(v:Value)(L:List Pt):Prop:=∃a cap,v=.slice a L.length cap∧L.length≤9223372036854775807∧(0<L.length→∃b off,a=some ⟨b,off,none⟩∧b<w.heap.size∧L.length≤cap∧cap≤9223372036854775807∧w.rangeAt b off (flatT L))
theorem SusAt.pts{w:World}{v:Value}{L:List Pt}(h:SusAt w v L)(hL:L.length≤1000):PtsAt w v L:=by
 obtain⟨a,cap,e,hm,hf⟩:=h
 refine⟨a,cap,e,by omega,fun h0=>?_⟩
 obtain⟨b,off,e1,hb,h1,h2,h3⟩:=hf h0
 refine⟨b,off,e1,hb,h1,h2,fun i hi j v hv=>?_⟩
 have h4:=h3 (i*5+j) v (flat_at Pt.L 5 (fun _=>rfl) default L i j v hi hv)
 rw[Nat.add_assoc]
 exact h4
theorem lay_su:lay Tryz.prog 6 76=some [some .u16,some .u32,none,none,none]:=by kernel_rfl
theorem sus_of:∀(m:Nat) (xs:List Value),RowTyped [some .u16,some .u32,none,none,none] m xs→∃L:List Pt,L.length=m∧flatT L=xs∧∀h∈L,PtR h
 | 0,xs,h=>⟨[],rfl,by
     have:=h.1
     rw[Nat.zero_mul]at this
     rw[List.length_eq_zero_iff.1 this]
     rfl,fun h hh=>by cases hh⟩
 | m+1,xs,h=>by
  obtain⟨h1,h2⟩:=h
  have e3:([some .u16,some .u32,none,none,none]:List (Option IntKind)).length=5:=rfl
  rw[e3]at h1 h2
  obtain ⟨L,l1,l2,l3⟩:=sus_of m (xs.drop 5) ⟨by rw[e3,List.length_drop];omega,fun i hi=>by
   rw[e3,List.drop_drop]
   have:=h2 (i+1) (by omega)
   rw[show 5+i*5=(i+1)*5 by omega]
   exact this⟩
  have ht:=h2 0 (by omega)
  rw[Nat.zero_mul,List.drop_zero]at ht
  obtain⟨z0,c0,w0⟩:=ht.int 0 .u16 rfl
  obtain⟨z1,c1,w1⟩:=ht.int 1 .u32 rfl
  obtain⟨z2,c2⟩:=ht.bool 2 rfl
  obtain⟨z3,c3⟩:=ht.bool 3 rfl
  obtain⟨z4,c4⟩:=ht.bool 4 rfl
  refine⟨⟨z0,z1,z2,z3,z4⟩ :: L,by simp[l1],?_,fun h hh=>?_⟩
  ·rw[flatT_cons,l2,←List.take_append_drop 5 xs,List.drop_append,List.length_take,Nat.min_eq_left (by omega),Nat.sub_self,List.drop_zero,List.drop_eq_nil_of_le (by rw[List.length_take];omega),List.nil_append]
   congr 1
   apply List.ext_getElem?
   intro j
   match j with
   | 0=>exact c0.symm
   | 1=>exact c1.symm
   | 2=>exact c2.symm
   | 3=>exact c3.symm
   | 4=>exact c4.symm
   | j+5=>rw[List.getElem?_eq_none (by show 5≤_;omega),List.getElem?_eq_none (by rw[List.length_take];omega)]
  ·rcases List.mem_cons.1 hh with rfl|hh
   ·have h0:=wf_u16 w0
    have h1:=wf_u32 w1
    unfold PtR
    dsimp only
    omega
   ·exact l3 h hh
theorem open_sus{H:Type}{enc:TypeId × Value→H}{w:World}{r:Reach}{b0:Nat}{v:Value}{d:DataW H}{p:List MemPlace}(hv:Value.okWide Tryz.prog w r b0 25 v)(h:DataW.Trod enc Tryz.prog w 0 (fun _=>true) true 25 v d p):∃L:List Pt,SusAt w v L∧∀h∈L,PtR h:=by
 obtain⟨fuel,hf⟩:=h
 obtain⟨a0,l0,c0,rfl⟩:=okWide_slice Tryz.underlying25 hv
 obtain⟨m,xs,hr,ht⟩:=open_row Tryz.underlying25 lay_su (by decide) hf
 obtain⟨L,rfl,rfl,hw⟩:=sus_of m xs ht
 refine⟨L,?_,hw⟩
 rcases hr.2 with ⟨h0,h1|⟨a,cap,h1⟩⟩|⟨b,off,cap,h1,g0,g1,g2,h2,h3⟩
 ·cases h1
  exact⟨_,0,by rw[h0],by omega,fun h=>by omega⟩
 ·cases h1
  exact⟨_,c0,by rw[h0],by omega,fun h=>by omega⟩
 ·cases h1
  unfold maxLen at g2
  exact⟨_,c0,rfl,by omega,fun _=>⟨b,off,rfl,h2,g1,by omega,h3⟩⟩
def AL:List (Option IntKind):=[some .u8,some .u8,none]++ML
def ActsAt(w:World)(v:Value)(m:Nat)(xs:List Value):Prop:=∃a cap,v=.slice a m cap∧m≤9223372036854775807∧RowTyped AL m xs∧(0<m→∃b off,a=some ⟨b,off,none⟩∧b<w.heap.size∧m≤cap∧cap≤9223372036854775807∧w.rangeAt b off xs)
theorem lay_act18:lay Tryz.prog 6 48=some AL:=by kernel_rfl
theorem open_acts18{H:Type}{enc:TypeId × Value→H}{w:World}{r:Reach}{b0:Nat}{v:Value}{d:DataW H}{p:List MemPlace}(hv:Value.okWide Tryz.prog w r b0 43 v)(h:DataW.Trod enc Tryz.prog w 0 (fun _=>true) true 43 v d p):∃(m:Nat) (xs:List Value),ActsAt w v m xs:=by
 obtain⟨fuel,hf⟩:=h
 obtain⟨a0,l0,c0,rfl⟩:=okWide_slice Tryz.underlying43 hv
 obtain⟨m,xs,hr,ht⟩:=open_row Tryz.underlying43 lay_act18 (by decide) hf
 refine⟨m,xs,?_⟩
 rcases hr.2 with ⟨h0,h1|⟨a,cap,h1⟩⟩|⟨b,off,cap,h1,g0,g1,g2,h2,h3⟩
 ·cases h1
  exact⟨_,0,by rw[h0],by omega,ht,fun h=>by omega⟩
 ·cases h1
  exact⟨_,c0,by rw[h0],by omega,ht,fun h=>by omega⟩
 ·cases h1
  unfold maxLen at g2
  exact⟨_,c0,rfl,by omega,ht,fun _=>⟨b,off,rfl,h2,g1,by omega,h3⟩⟩
end Go.Proofs.YtpanapepcbbagaaGreat
namespace Go.Proofs.YtpanapepcbbagaaGreat
open Go.RowKit Go.BigFrame Go.WideShapes Go.ChangeShapes Go.Deep
theorem mk_n(n:Nat)(h0:0<n)(h5:n≤5)(w:World):(Instr.makeSlice 33 (.int .i64 (n:Int)) (.int .i64 (n:Int))).run Tryz.prog w=.ok (.slice (some ⟨w.heap.size,0,none⟩) n n) (w.alloc (.cells (Array.replicate n (.int .i64 0)) 3)):=by
 rcases(by omega:n=1∨n=2∨n=3∨n=4∨n=5)with rfl|rfl|rfl|rfl|rfl<;>kernel_rfl
theorem st_all1{P:Program}{ops:Array Oper}{rest:List Oper}{op:Oper}{a:Act}{w:World}{Q:Exit→Act→World→Prop}(hgd:op.guard=none)(hdst:op.dst=none)(ty:TypeId)(x y:Operand)(ho:op.op=.store ty x y)(g o:Nat)(u:Value)(cs:Array Value)(t:TypeId)(hx:a.eval x=.pointer (some ⟨g,o,none⟩))(hy:a.eval y=u)(hX:w.heap[g]?=some (.cells cs t (0,0)))(hl:o<cs.size)(hv:u.cells=#[u])(hi:(P.info? ty).map (·.size)=some 1)(h1:u.oneCell'=true)(h:∀w',w'.heap[g]?=some (.cells (cs.setIfInBounds o u) t (0,0))→Mut (fun n=>n=g) w w'→wpList P ops Q rest a w'):wpList P ops Q (op :: rest) a w:=by
 have hl2:o+1≤cs.size:=hl
 refine st_at hgd hdst ty x y ho g o u #[u] cs (cs.setIfInBounds o u) t hx hy hv hX hl2 (by simpa using hi) (by simpa using h1) ?_ h
 apply Array.ext'
 simp only[Array.toList_setIfInBounds,List.size_toArray,List.length_cons,List.length_nil]
 rw[List.set_eq_take_append_cons_drop,if_pos (by rw[Array.length_toList];exact hl2)]
 simp
theorem WB.keepS{N:Nat→Prop}{X g S:Nat}{w w':World}{B:Br}(h:WB N X g B w)(hm:Mut (fun n=>n=S) w w')(hN:∀n,N n→n≠S):WB N X g B w' :=
 (BrG.apart h hm (fun k _ hk hS=>hN k hk.1 hS)).mono (fun n hn=>⟨hn.1,nL hn.2 hm.size⟩)
def SentIs(cs:Array Value)(n:Nat)(s:Nat→Nat):Prop:=cs.size=n∧∀k,k<n→cs[k]?=some (.int .i64 ((s k:Nat):Int))
theorem SentIs.up{cs:Array Value}{n:Nat}{s s':Nat→Nat}(h:SentIs cs n s){x:Nat}(hx:x<n)(hs:s' x=s x+1)(hne:∀k,k<n→k≠x→s' k=s k):SentIs (cs.setIfInBounds x (.int .i64 ((s' x:Nat):Int))) n s':=by
 refine⟨by simpa using h.1,fun k hk=>?_⟩
 rw[Array.getElem?_setIfInBounds]
 by_cases hkx:x=k
 ·subst hkx
  rw[if_pos rfl,if_pos (by rw[h.1];exact hk)]
 ·rw[if_neg hkx,h.2 k hk,hne k hk (fun e=>hkx e.symm)]
theorem SentIs.congr{cs:Array Value}{n:Nat}{s s':Nat→Nat}(h:SentIs cs n s)(he:∀k,k<n→s' k=s k):SentIs cs n s':=⟨h.1,fun k hk=>by rw[he k hk];exact h.2 k hk⟩
theorem WB.out{N:Nat→Prop}{X g:Nat}{w:World}{B:Br}(h:WB N X g B w)(ho:B.ok):∃a cap,w.cell? ⟨X,18,none⟩=some (.slice a B.no cap)∧B.no≤cap∧cap≤9223372036854775807∧(0<B.no→∃b,a=some ⟨b,0,none⟩∧N b∧b<w.heap.size∧∀j,j<B.no*18→w.cell? ⟨b,j,none⟩=B.os[j]?):=by
 obtain⟨h1,h2,cap,cur,s2,s3,a,b,c,d,e,f,p,q,r,s⟩:=h
 have hl:B.hd.length=17:=ho.hd.1
 have c18:w.cell? ⟨X,18,none⟩=some s2:=by
  rw[cell_of_row _ _ _ _ _ _ a]
  simp[hl]
 rcases p.2 with ⟨e0,e1⟩|⟨g2,cap2,cur2,rfl,hb,hg,hn2,hm,hs,ht⟩
 ·refine⟨none,0,?_,by omega,by omega,fun h0=>by omega⟩
  rw[c18,e0,e1]
 ·refine⟨_,cap2,c18,hn2,by unfold maxLen at hm;omega,fun h0=>⟨g2,rfl,(r g2 rfl).1,heap_lt hg,fun j hj=>?_⟩⟩
  rw[cell_of_row _ _ _ _ _ _ hg,←ht,List.getElem?_take,if_pos hj]
  simp
theorem WB.nilOut{N:Nat→Prop}{X g:Nat}{w:World}{B:Br}(h:WB N X g B w)(ho:B.ok):∃cs,w.heap[X]?=some (.cells cs 35 (0,0))∧cs.size=20∧∀w',w'.heap[X]?=some (.cells (cs.setIfInBounds 18 (.slice none 0 0)) 35 (0,0))→Mut (fun n=>n=X) w w'→WB N X g { B with no:=0,os:=[] } w':=by
 have hne:=BrG.lt h
 obtain⟨h1,h2,cap,cur,s2,s3,a,b,c,d,e,f,p,q,r,s⟩:=h
 have hl:B.hd.length=17:=ho.hd.1
 refine⟨_,a,by simp[hl],fun w' hX hm=>?_⟩
 have hk:∀k,k≠X→k<w.heap.size→w'.heap[k]?=w.heap[k]?:=fun k hk hl=>hm.heap hl (fun h=>hk h)
 have hsz:=hm.size
 have q':w'.ownsRow 0 3 1 s3 B.nf B.fl:=owns_keep q (fun k hk' hl=>hk k (fun e=>by
  subst e
  rcases q.2 with hn|⟨g3,cap3,cur3,rfl,hb3,hg3,-⟩
  ·rw[hn.1]at hk';cases hk'
  ·obtain rfl:g3=k:=by simpa[Value.ownBlock]using hk'
   rw[a]at hg3
   simp at hg3) hl)
 refine⟨⟨h1.1,nL h1.2 hsz⟩,⟨h2.1,nL h2.2 hsz⟩,cap,cur,.slice none 0 0,s3,?_,(hk g (fun e=>hne.2.2 e.symm) (heap_lt b)).trans b,c,d,e,f,⟨by simp,.inl ⟨rfl,rfl⟩⟩,q',fun k hk'=>(by cases hk'),fun k hk'=>⟨(s k hk').1,nL (s k hk').2 hsz⟩⟩
 rw[hX]
 congr 2
 apply Array.ext'
 rw[Array.toList_setIfInBounds]
 show(B.hd++[.slice (some ⟨g,0,none⟩) B.np cap,s2,s3]).set 18 _=B.hd++[.slice (some ⟨g,0,none⟩) B.np cap,.slice none 0 0,s3]
 rw[List.set_append_right _ _ (by omega),hl]
 rfl
theorem KI.nilOut{n M:Nat}{s:Nat→Nat}{B:Br}(h:KI n M s B){l:List Nat}(hc:∀k,k<n→((s k+l.count k:Nat):Int)≤B.gi k 14):KI n M (fun k=>s k+l.count k) { B with no:=0,os:=[] } :=
 ⟨⟨h.ok.hd,h.ok.ps,⟨rfl,fun i hi=>absurd hi (Nat.not_lt_zero _)⟩,h.ok.fl⟩,h.np,h.hs,h.h13,h.pt,⟨[],⟨rfl,fun i x hx=>(by simp at hx)⟩,fun x hx=>(by simp at hx),fun k hk=>(by rw[List.count_nil,Nat.add_zero];exact hc k hk)⟩,h.nf⟩
theorem rangeX{w w':World}{b off:Nat}{xs:List Value}(h:w.rangeAt b off xs)(hx:Ext w w')(hb:b<w.heap.size):w'.rangeAt b off xs:=fun j v hv=>(hx.cell hb).trans (h j v hv)
theorem act_at{m:Nat}{xs:List Value}(ht:RowTyped AL m xs){i:Nat}(hi:i<m):(∃p:Nat,p<256∧xs[i*20+1]?=some (.int .u8 (p:Int)))∧Typed ML ((xs.drop (i*20+3)).take 17):=by
 have h2:=ht.2 i hi
 rw[show AL.length=20 from rfl]at h2
 constructor
 ·obtain⟨z,hz,hw⟩:=h2.int 1 .u8 rfl
  have hr:0≤z∧z<256:=by simp[Lit.wf,IntKind.min,IntKind.max,IntKind.signed,IntKind.bits]at hw;omega
  refine⟨z.toNat,by omega,?_⟩
  rw[show((z.toNat:Nat):Int)=z by omega]
  rw[List.getElem?_take,if_pos (by decide),List.getElem?_drop]at hz
  exact hz
 ·have h3:=(Typed.part (l:=AL.take 3) (l2:=ML) (show Typed (AL.take 3++ML) _ from h2)).2
  rw[show(AL.take 3).length=3 from rfl,List.drop_take,List.drop_drop]at h3
  exact h3
theorem law_BridgeHold{w:World}(rst:Bool)(v:Value)(P:List Pt)(hP:SusAt w v P)(hpr:∀p∈P,PtR p)(va:Value)(m:Nat)(xs:List Value)(hA:ActsAt w va m xs):
    Calls Tryz.prog 9 #[.bool rst,v,va] w fun e w'=>e=.returned (.bool true)∧Ext w w':=by
 have HP:=hD hP
 have HR:=hD hpr
 obtain⟨pa,pcap,rfl,hpm,-⟩:=hP
 obtain⟨aa,acap,rfl,ham,hrt,haf⟩:=hA
 have HAF:=hD haf
 have HRT:=hD hrt
 clear hpr haf hrt
 go_enter Tryz.func9,Tryz.ntmps9
 go_wp2_with fail
 refine(awake_any w).mono ?_
 rintro e w1 ⟨rfl,hx⟩
 have HX1:=hD hx
 clear hx
 by_cases h5:P.length≤5
 case neg =>
  have d5:decide ((P.length:Int) > 5)=true:=by simp;omega
  go_wp2_with fail
  go_ret
  exact⟨rfl,HX1.out⟩
 have d5:decide ((P.length:Int) > 5)=false:=by simp;omega
 by_cases h1:0<P.length
 case neg =>
  have d1:decide ((P.length:Int)<1)=true:=by simp;omega
  go_wp2_with fail
  go_ret
  exact⟨rfl,HX1.out⟩
 have d1:decide ((P.length:Int)<1)=false:=by simp;omega
 by_cases h40:m≤40
 case neg =>
  have d40:decide ((m:Int) > 40)=true:=by simp;omega
  go_wp2_with fail
  go_ret
  exact⟨rfl,HX1.out⟩
 have d40:decide ((m:Int) > 40)=false:=by simp;omega
 have hmk:=mk_n P.length h1 h5
 go_wp2_with fail
 refine(live_any rst _ P w1 (ptsx (HP.out.pts (by omega)) HX1.out) HR.out h1 h5).mono ?_
 rintro e w2 ⟨c,B,rfl,hvb,hK,hx2⟩
 have HSZ:=hD (hvb.sz hK.ok)
 have HVB:=hD hvb
 have HK:=hD hK
 have HX2:=hD hx2
 clear hvb hK hx2 d5 d1 d40
 go_wp2_with (first
  | fail
  | ((with_reducible refine at_alloc 35 ?_);refine al_zero rfl 35 rfl BrZ zero_br ?_
     intro X w3 hq hsz hx)
  | ((with_reducible refine at_store 35 ?_);refine st_all rfl rfl 35 _ _ rfl X c BrZ 35 rfl rfl hq HSZ.out.1 size_brg HSZ.out.2 ?_
     intro w4 hq4 hm4
     have HQ4:=hD hq4
     have HV4:=hD (HVB.out.mut ((hx.mut (fun n=>n=X)).trans hm4) (fun n h1 h2 h3=>by have h4:n=X:=h3;omega))
     have HX4:=hD (show Ext w1 w4 from HX2.out.trans (hx.mutE hm4 (fun g hg h=>by have h2:g=X:=h;omega)))
     have HXW:=hD (show w1.heap.size≤X from by have:=HX2.out.size;omega)
     clear hq hsz hx hq4 hm4 HVB HX2))
 obtain⟨g,hB⟩:=VB.wb (N:=fun n=>w1.heap.size≤n) HV4.out HQ4.out (fun n hn _=>hn) HXW.out
 have HB:=hD hB
 clear hB HV4 HQ4 HSZ
 go_loopw [10] (fun s wr=>∃(k:Nat) (C:Br),s=.int .i64 k∧k≤P.length∧WB (fun n=>w1.heap.size≤n) X g C wr∧KI P.length 50000 (fun _=>0) C∧Mut (fun n=>w1.heap.size≤n) w4 wr) (fun s _=>P.length - (intOf s).toNat)
 case atStart=>exact⟨0,B,rfl,by omega,HB.out,HK.out,Mut.refl _ w4⟩
 case round =>
  clear HB HK
  obtain⟨k,C,rfl,hk,hB,hK,hm⟩:=hrel
  rename World=>wl
  have HB:=hD hB
  have HK:=hD hK
  have HM:=hD hm
  clear hB hK hm
  by_cases hlt:k<P.length
  ·have dlt:decide ((k:Int)<(P.length:Int))=true:=by simp;omega
   have hup:IntKind.i64.wrap ((k:Int)+1)=((k+1:Nat):Int):=by rw[IntKind.wrap_i64];omega
   go_wp2_with fail
   refine(enable_any (k:=k) HB.out HK.out.ok (by rw[HK.out.np];exact hlt) (by rw[HK.out.np];omega) true).mono ?_
   rintro e w5 ⟨d,C',rfl,hB5,hm5,hR⟩
   have HB5:=hD hB5
   have HM5:=hD (HM.out.trans hm5)
   have HK5:=hD (show KI P.length 50000 (fun _=>0) C' from by
    rcases hR with ⟨-,-,rfl⟩|⟨-,-,rfl⟩
    ·exact HK.out
    ·exact HK.out.en hlt true)
   clear hB5 hm5 hR
   go_wp2_with fail
   go_roundw
   case rel=>exact⟨k+1,C',by go_num,hlt,HB5.out,HK5.out,HM5.out⟩
   case measure=>simp[intOf]<;>omega
  ·obtain rfl:k=P.length:=by omega
   have dlt:decide ((P.length:Int)<(P.length:Int))=false:=by simp
   go_wp2_with fail
   obtain⟨S,hS⟩:∃S,wl.heap.size=S:=⟨_,rfl⟩
   have hnew:=heap_alloc_new wl (.cells (Array.replicate P.length (.int .i64 0)) 3)
   have hxa:Ext wl (wl.alloc (.cells (Array.replicate P.length (.int .i64 0)) 3)):=(Ext.refl _).alloc _
   rw[hS]at hnew ⊢
   obtain⟨w6,hw6⟩:∃W,wl.alloc (.cells (Array.replicate P.length (.int .i64 0)) 3)=W:=⟨_,rfl⟩
   rw[hw6]at hnew hxa ⊢
   have HSN:=hD (show w1.heap.size≤S from by rw[←hS];exact Nat.le_trans HX4.out.size HM.out.size)
   have HW6:=hD (show WB (fun n=>w1.heap.size≤n∧n≠S) X g C w6 from WB.ext (BrG.mono HB.out (fun n hn=>⟨⟨hn.1,by rw[←hS];have:=hn.2;omega⟩,hn.2⟩)) hxa)
   have HCS6:=hD hnew
   have HX6:=hD (show Ext w w6 from((HX1.out.trans HX4.out).mutE HM.out (fun j hj h=>by have h2:w1.heap.size≤j:=h;have h3:=HX1.out.size;omega)).trans hxa)
   have HK6:=HK
   have HSI:=hD (show SentIs (Array.replicate P.length (.int .i64 0)) P.length (fun _=>0)from⟨by simp,fun k hk=>by simp[hk]⟩)
   have HQ:=hD (show ∀w':World,w6.heap.size≤w'.heap.size→∀n,w'.heap.size≤n→w1.heap.size≤n∧n≠S from fun w' h n hn=>by have h2:=heap_lt hnew;have h3:=HSN.out;omega)
   clear hnew hxa hw6 hS HB HM HK hmk dlt
   go_loopw [12] (fun sl wr=>∃(i M:Nat) (s:Nat→Nat) (C:Br) (cs:Array Value),sl=.int .i64 i∧i≤m∧M≤50000+50000*i∧WB (fun n=>w1.heap.size≤n∧n≠S) X g C wr∧KI P.length M s C∧wr.heap[S]?=some (.cells cs 3 (0,0))∧SentIs cs P.length s∧Mut (fun n=>w1.heap.size≤n) w6 wr) (fun sl _=>m - (intOf sl).toNat)
   case atStart=>exact⟨0,50000,fun _=>0,C,_,rfl,by omega,by omega,HW6.out,HK6.out,HCS6.out,HSI.out,Mut.refl _ w6⟩
   case round =>
    clear HW6 HK6 HCS6 HSI C
    obtain⟨i,M,s,C,cs,rfl,hi,hM,hB,hK,hcs,hsi,hm⟩:=hrel
    rename World=>wr
    have HB:=hD hB
    have HKI:=hD hK
    have HCS:=hD hcs
    have HSI:=hD hsi
    have HM:=hD hm
    have HXR:=hD (show Ext w wr from HX6.out.mutE hm (fun j hj h=>by have h2:w1.heap.size≤j:=h;have h3:=HX1.out.size;omega))
    clear hB hK hcs hsi hm
    by_cases hlm:i<m
    ·have dlm:decide ((i:Int)<(m:Int))=true:=by simp;omega
     have hupi:IntKind.i64.wrap ((i:Int)+1)=((i+1:Nat):Int):=by rw[IntKind.wrap_i64];omega
     obtain⟨b,off,rfl,hb,hc1,hc2,hrg⟩:=HAF.out (by omega)
     obtain⟨⟨p,hp,hpx⟩,hmt⟩:=act_at HRT.out hlm
     obtain⟨mL,hmL⟩:∃l,(xs.drop (i*20+3)).take 17=l:=⟨_,rfl⟩
     rw[hmL]at hmt
     have HMT:=hD hmt
     have HMR:=hD (show wr.rangeAt b (off+i*20+3) mL from fun j v hv=>by
      have h2:=rangeX hrg HXR.out hb (i*20+3+j) v (by
       rw[←hmL,List.getElem?_take]at hv
       split at hv
       ·rw[List.getElem?_drop]at hv;exact hv
       ·cases hv)
      rw[show off+i*20+3+j=off+(i*20+3+j)from by omega]
      exact h2)
     have HPR:=hD (show wr.cell? ⟨b,off+i*20+1,none⟩=some (.int .u8 (p:Int))from by
      have h2:=rangeX hrg HXR.out hb (i*20+1) _ hpx
      rw[show off+i*20+1=off+(i*20+1)from by omega]
      exact h2)
     have HBW:=hD hb
     have HMS:=hD (show(Tryz.prog.info? 46).map (·.size)=some mL.length by rw[hmt.1];exact size_msg)
     clear hrg hmt hpx hmL
     go_wp2_with (first
      | fail
      | ((with_reducible refine at_load 46 ?_);refine wpList_load_mid rfl 46 _ rfl b (off+i*20+3) rfl mL _ HMR.out Tryz.underlying46 rfl HMS.out ?_))
     refine(told18_any mL HMT.out wr).mono ?_
     rintro e w7 ⟨d7,rfl,htd,hx7⟩
     have HX7:=hD (HXR.out.trans hx7)
     have HB7:=hD (show b<w7.heap.size∧¬w1.heap.size≤b from by have h1:=HX7.out.size;have h2:=HBW.out;have h3:=HX1.out.size;omega)
     have HP7:=hD ((hx7.cell (p:=⟨b,off+i*20+1,none⟩) (by have h1:=HXR.out.size;have h2:=HBW.out;show b<_;omega)).trans HPR.out)
     have HM7:=hD (rangeX HMR.out hx7 (by have h1:=HXR.out.size;have h2:=HBW.out;omega))
     have HW7:=hD (WB.ext HB.out hx7)
     have HCS7:=hD ((hx7.block S (heap_lt HCS.out)).trans HCS.out)
     have HMM7:=hD (HM.out.trans (hx7.mut _))
     clear hx7 HB HCS HXR HMR HPR HM
     have HCS:=HCS7
     cases d7
     ·go_wp2_with fail
      go_ret
      exact⟨rfl,HX7.out⟩
     ·have HTD:=hD (htd rfl)
      clear htd
      obtain⟨q,hq⟩:∃q,Int.tmod (p:Int) (P.length:Int)=q:=⟨_,rfl⟩
      have hwp:IntKind.i64.wrap (p:Int)=(p:Int):=by rw[IntKind.wrap_i64];omega
      have hn0:((P.length:Int) == 0)=false:=by simp;intro h;simp[h]at h1
      have hqr:0≤q∧q<256:=by
       rw[←hq,Int.tmod_eq_emod_of_nonneg (show(0:Int)≤(p:Int) by omega)]
       have h1:=Int.emod_nonneg (p:Int) (show(P.length:Int)≠0 by omega)
       have h2:=Int.emod_lt_of_pos (p:Int) (show(0:Int)<P.length by omega)
       omega
      have hwq:IntKind.i64.wrap q=q:=by rw[IntKind.wrap_i64];omega
      go_wp2_with fail
      refine beginL (S:=fun W'=>Mut (fun n=>w1.heap.size≤n) w7 W') (by kernel_rfl) ?_
      intro wd hqx
      have hq0:Mut (fun n=>w1.heap.size≤n) w7 wd:=hqx.mut _
      refine tLp 0 ((.slice (some ⟨b,off,none⟩) m acap)) rfl hq0 ?_
      refine tLp 1 ((.int .i64 (i:Int))) rfl hq0 ?_
      refine tL 2 ((.pointer (some ⟨b,off+i*20,none⟩))) rfl (Or.inl ⟨rfl,fun W' _=>by go_simp<;>(intro h;omega)⟩) hq0 ?_
      refine tLp 3 ((.pointer (some ⟨b,off+i*20+1,none⟩))) rfl hq0 ?_
      refine tL 4 (_) rfl (yieldsIf_cell rfl 5 _ rfl ⟨b,off+i*20+1,none⟩ rfl (.int .u8 (p:Int)) _ (fun W' hW'=>(hW'.cell (p:=⟨b,off+i*20+1,none⟩) HB7.out.1 HB7.out.2).trans HP7.out) Tryz.underlying5 rfl) hq0 ?_
      refine tL 5 ((.int .i64 (p:Int))) rfl (Or.inl ⟨rfl,fun W' _=>by go_simp⟩) hq0 ?_
      refine tLp 6 ((.slice pa P.length pcap)) rfl hq0 ?_
      refine tL 7 ((.int .i64 (P.length:Int))) rfl (Or.inl ⟨rfl,fun W' _=>by go_simp⟩) hq0 ?_
      refine tL 8 ((.int .i64 q)) rfl (Or.inl ⟨rfl,fun W' _=>by go_simp<;>(intro h;simp[h]at h1)⟩) hq0 ?_
      refine tLp 9 ((.slice (some ⟨b,off,none⟩) m acap)) rfl hq0 ?_
      refine tLp 10 ((.int .i64 (i:Int))) rfl hq0 ?_
      refine tL 11 ((.pointer (some ⟨b,off+i*20,none⟩))) rfl (Or.inl ⟨rfl,fun W' _=>by go_simp<;>(intro h;omega)⟩) hq0 ?_
      refine tLp 12 ((.pointer (some ⟨b,off+i*20+3,none⟩))) rfl hq0 ?_
      refine tL 13 (_) rfl (yieldsIf_load_mid rfl 46 _ rfl b (off+i*20+3) rfl mL _ (fun W' hW' j v hv=>(hW'.cell (p:=⟨b,off+i*20+3+j,none⟩) HB7.out.1 HB7.out.2).trans (HM7.out j v hv)) Tryz.underlying46 rfl HMS.out) hq0 ?_
      refine runL (i:=14) rfl rfl (by kernel_rfl) (fun K hK=>?_)
      go_simp
      refine(hear_any (WB.ext HW7.out hqx) HKI.out.ok (by rw[HKI.out.np];omega) q HTD.out.1).mono ?_
      rintro e w8 ⟨d8,C1,rfl,hB8,hm8,rfl⟩
      have hS8:Mut (fun n=>w1.heap.size≤n) w7 w8:=hq0.trans (hm8.mono (fun n _ h=>h.1))
      have hcs8:w8.heap[S]?=some (.cells cs 3 (0,0)):=(hm8.heap (heap_lt ((hqx.block S (heap_lt HCS.out)).trans HCS.out)) (fun h=>h.2 rfl)).trans ((hqx.block S (heap_lt HCS.out)).trans HCS.out)
      refine hK.out _ _ hS8 (fun _=>?_)
      try simp only[ps]
      clear hK K
      refine wpAnyH_done (by kernel_rfl) ?_ _
      have HB8:=hD hB8
      have HCS8:=hD hcs8
      have HM8:=hD (HMM7.out.trans hS8)
      have HK8:=hD (HKI.out.take q HTD.out)
      clear hB8 hcs8 hS8 hm8 hq0 hqx hq hwp hn0 hqr hwq
      go_wp2_with fail
      refine(run_ki h5 h1 (by omega) _ w8 (HQ.out w8 HM8.out.size) HB8.out HK8.out).mono ?_
      rintro e w9 ⟨kr,dr,C2,rfl,hB9,hm9,hK9⟩
      have HB9:=hD hB9
      have HK9:=hD hK9
      have HM9:=hD (HM8.out.trans (hm9.mono (fun n _ h=>h.1)))
      have HCS9:=hD ((hm9.heap (heap_lt HCS8.out) (fun h=>h.2 rfl)).trans HCS8.out)
      obtain⟨l,⟨hl1,hl2⟩,hl3,hl4⟩:=hK9.out
      have HL:=hD hl2
      have HLN:=hD hl3
      have HLC:=hD hl4
      clear hB9 hm9 hK9 hl2 hl3 hl4 HB8 HCS8 HM8 HK8
      go_wp2_with fail
      go_loopw [14] (fun sl wr=>∃(k:Nat) (cs:Array Value),sl=.int .i64 k∧k≤l.length∧WB (fun n=>w1.heap.size≤n∧n≠S) X g C2 wr∧wr.heap[S]?=some (.cells cs 3 (0,0))∧SentIs cs P.length (fun j=>s j+(l.take k).count j)∧Mut (fun n=>n=S) w9 wr) (fun sl _=>l.length - (intOf sl).toNat)
      case atStart=>exact⟨0,cs,rfl,by omega,HB9.out,HCS9.out,HSI.out.congr (fun k _=>by simp),Mut.refl _ w9⟩
      case round =>
       clear HSI HCS HCS7 HCS9 HB9
       obtain⟨k,cs',rfl,hk,hB,hcs,hsi,hm⟩:=hrel
       rename World=>wk
       have HB:=hD hB
       have HCS:=hD hcs
       have HSI:=hD hsi
       have HMK:=hD hm
       obtain⟨oa,ocap,c18,ho1,ho2,ho3⟩:=WB.out hB HK9.out.ok
       rw[←hl1]at c18 ho1 ho3
       clear hB hcs hsi hm
       by_cases hkl:k<l.length
       ·have dkl:decide ((k:Int)<(l.length:Int))=true:=by simp;omega
        have hupk:IntKind.i64.wrap ((k:Int)+1)=((k+1:Nat):Int):=by rw[IntKind.wrap_i64];omega
        obtain⟨ob,rfl,hob1,hob2,hob3⟩:=ho3 (by omega)
        obtain⟨x,hx⟩:∃x,l[k]?=some x:=⟨_,List.getElem?_eq_getElem hkl⟩
        have hxn:x<P.length:=HLN.out x (List.mem_of_getElem? hx)
        have hcx:wk.cell? ⟨ob,k*18,none⟩=some (.int .i64 (x:Int)):=(hob3 (k*18) (by omega)).trans (HL.out k x hx)
        have hsx:wk.cell? ⟨S,x,none⟩=some (.int .i64 ((s x+(l.take k).count x:Nat):Int)):=by
         rw[cell_row HCS.out]
         exact HSI.out.2 x hxn
        have htk:l.take (k+1)=l.take k++[x]:=by
         rw[List.take_add_one,hx]
         rfl
        have hcx1:(l.take (k+1)).count x=(l.take k).count x+1:=by
         rw[htk,List.count_append]
         simp
        have hbd:s x+(l.take k).count x+1≤6:=by
         have h2:=HLC.out x hxn
         have h3:=(HK9.out.pt x hxn).1.2
         have h4:(l.take (k+1)).count x≤l.count x:=List.Sublist.count_le x (List.take_sublist _ _)
         omega
        obtain⟨y,hy⟩:∃y,s x+(l.take k).count x=y:=⟨_,rfl⟩
        rw[hy]at hsx hbd
        have hupy:IntKind.i64.wrap ((y:Int)+1)=((y+1:Nat):Int):=by rw[IntKind.wrap_i64];omega
        have dx0:decide ((x:Int)<0)=false:=by simp
        have dxn:decide ((x:Int)≥(P.length:Int))=false:=by simp;omega
        have HY:=hD (And.intro hy (And.intro hcx1 htk))
        clear hy hcx1 htk hob3 hx
        go_wp2_with (first
         | fail
         | ((with_reducible refine at_store 3 ?_);refine st_all1 rfl rfl 3 _ _ rfl S x (.int .i64 ((y+1:Nat):Int)) cs' 3 rfl (by first|rfl|exact congrArg (Value.int .i64) (by omega)) HCS.out (by rw[HSI.out.1];exact hxn) rfl (by kernel_rfl) rfl ?_
            intro wz hqz hmz
            have HQZ:=hD hqz
            have HMZ:=hD hmz
            clear hqz hmz))
        have HBZ:=hD (show WB (fun n=>w1.heap.size≤n∧n≠S) X g C2 wz from WB.keepS HB.out HMZ.out (fun n h=>h.2))
        go_roundw
        case rel =>
         refine⟨k+1,_,by go_num,hkl,HBZ.out,HQZ.out,?_,HMK.out.trans HMZ.out⟩
         obtain⟨hy,hcx1,htk⟩:=HY.out
         have h2:=HSI.out.up (s':=fun j=>s j+(l.take (k+1)).count j) hxn (by show s x+(l.take (k+1)).count x=s x+(l.take k).count x+1;omega) (fun j hj hne=>by
          show s j+(l.take (k+1)).count j=s j+(l.take k).count j
          rw[htk,List.count_append,List.count_singleton,if_neg (by simpa using fun e:x=j=>hne e.symm)]
          omega)
         have h3:s x+(l.take (k+1)).count x=y+1:=by omega
         simp only[h3]at h2
         exact h2
        case measure=>simp[intOf]<;>omega
       ·obtain rfl:k=l.length:=by omega
        have dkl:decide ((l.length:Int)<(l.length:Int))=false:=by simp
        have HSE:=hD (HSI.out.congr (s':=fun j=>s j+l.count j) (fun j _=>by simp))
        obtain⟨rx,hrx,hrz,hre⟩:=WB.nilOut HB.out HK9.out.ok
        have HRE:=hD hre
        have HRX:=hD hrx
        have HRZ:=hD hrz
        clear hre hrx hrz ho3
        go_wp2_with (first
         | fail
         | ((with_reducible refine at_store 32 ?_);refine st_all1 rfl rfl 32 _ _ rfl X 18 (.slice none 0 0) rx 35 rfl rfl HRX.out (by rw[HRZ.out];decide) rfl (by kernel_rfl) rfl ?_
            intro wz hqz hmz
            have HBZ:=hD (HRE.out wz hqz hmz)
            have HMZ:=hD hmz
            clear hqz hmz))
        have hXS:X≠S:=(BrG.F1 HB.out).1.2
        have HCZ:=hD ((HMZ.out.heap (heap_lt HCS.out) (fun h=>hXS (show S=X from h).symm)).trans HCS.out)
        have HMZ2:=hD (HM9.out.trans ((HMK.out.mono (fun n _ h=>by have h2:n=S:=h;have h3:=HSN.out;omega)).trans (HMZ.out.mono (fun n _ h=>by have h2:n=X:=h;have h3:=HXW.out;omega))))
        have HKZ:=hD (HK9.out.nilOut HLC.out)
        go_roundw
        case rel=>exact⟨i+1,M+50000,_,_,cs',by go_num,hlm,by omega,HBZ.out,HKZ.out,HCZ.out,HSE.out,HMZ2.out⟩
        case measure=>simp[intOf]<;>omega
    ·obtain rfl:i=m:=by omega
     have dlm:decide ((i:Int)<(i:Int))=false:=by simp
     go_wp2_with fail
     go_loopw [16] (fun sl wz=>∃k:Nat,sl=.int .i64 k∧k≤P.length∧wz=wr) (fun sl _=>P.length - (intOf sl).toNat)
     case atStart=>exact⟨0,rfl,by omega,rfl⟩
     case round =>
      obtain⟨k,rfl,hk,rfl⟩:=hrel
      by_cases hkl:k<P.length
      ·have dkl:decide ((k:Int)<(P.length:Int))=true:=by simp;omega
       have hupk:IntKind.i64.wrap ((k:Int)+1)=((k+1:Nat):Int):=by rw[IntKind.wrap_i64];omega
       have hsk:s k≤6:=by
        obtain⟨l,-,-,h4⟩:=HKI.out.out
        have h2:=h4 k hkl
        have h3:=(HKI.out.pt k hkl).1.2
        omega
       obtain⟨y,hy⟩:∃y,s k=y:=⟨_,rfl⟩
       have hsx:=(cell_row HCS.out k).trans (HSI.out.2 k hkl)
       rw[hy]at hsk hsx
       have d6:decide ((y:Int) > 6)=false:=by simp;omega
       clear hy
       go_wp2_with fail
       go_roundw
       case rel=>exact⟨k+1,by go_num,hkl,trivial⟩
       case measure=>simp[intOf]<;>omega
      ·obtain rfl:k=P.length:=by omega
       have dkl:decide ((P.length:Int)<(P.length:Int))=false:=by simp
       go_wp2_with fail
       go_ret
       exact⟨rfl,HXR.out⟩
end Go.Proofs.YtpanapepcbbagaaGreat
