/- Part 3 of what PlanVersions stands on. No statement is proved here. -/
import Derived.Deep.OwnRows
import Derived.Deep.AppendLies
import Derived.OwnWalk
import Derived.Test.YtamnmjckhicapaaPtFb
namespace Go.Proofs.Ytamnmjckhicapaa
open Go.RowKit Go.BigFrame Go.WideShapes Go.ChangeShapes Go.Deep
set_option linter.unusedVariables false
set_option linter.unusedSimpArgs false
set_option maxRecDepth 100000
def HZ:Array Value:=#[.int .i64 0,.int .i64 0,.int .u32 0]
theorem zero_hop:∀ w,(zeroValue 100).run Try.prog w=.ok (.agg HZ) w:=(zero_of_info (P:=Try.prog) (t:=100) (v:=.agg HZ) (n:=3) (by kernel_rfl)).1
theorem info_hop:(Try.prog.info? 100).map (fun i=>(i.zero,i.size,i.bytes))=some (some (.agg HZ),3,24):=by kernel_rfl
theorem info_hops:(Try.prog.info? 72).map (fun i=>(i.zero,i.size,i.bytes))=some (some (.slice Option.none 0 0),1,24):=by kernel_rfl
theorem hop_b1 (f t c:Int):Instr.fill (fun i=>some (i*3,3)) ((Array.range (1*3)).map (HZ[· % HZ.size]!)) [(0,.agg #[.int .i64 f,.int .i64 t,.int .u32 c])]=some #[.int .i64 f,.int .i64 t,.int .u32 c]:=by kernel_rfl
theorem own_form2 {w:World} {base m n:Nat} {e:TypeId} {v:Value} {xs:List Value} (h:w.ownsRow base e m v n xs):∃ a cap,v=.slice a n cap:=by
 obtain ⟨h0,⟨rfl,rfl⟩ | ⟨g,cap,cur,rfl,hb,hg,hn,hm,hs,ht⟩⟩:=h
 ·exact ⟨_,_,rfl⟩
 ·exact ⟨_,_,rfl⟩
theorem oper_append_own_at {P:Program} {o:Oper} {a:Act} {w:World} {K:Act→World→Prop} {Q:Exit→Act→World→Prop} (s x:Operand) (t:TypeId)
    (ho:o.op=.call { callee:=.builtin .append,args:=#[s,x],argTypes:=#[t,t] })
    (base:Nat) (e:TypeId) (i:TypeInfo) (z:Value) (size bytes:Nat) (ht:P.underlying t=some (.slice e)) (hi:P.info? e=some i) (hz:i.zero=some z)
    (hsize:i.size=size) (hby:i.bytes=bytes) (hzs:z.cells.size=size) (hsz:0 < size)
    (v:Value) (n:Nat) (xs:List Value) (hs:a.eval s=v) (hown:w.ownsRow base e size v n xs)
    (ad:Addr) (m c:Nat) (news:List Value) (hx:a.eval x=.slice (some ad) m c) (hl:news.length=m*size) (hnews:∀ j u,news[j]?=some u→w.cell? (ad.add j)=some u) (h1:∀ u ∈ news,u.oneCell'=true)
    (h63:n+m≤maxLen) (hbytes:(n+m)*bytes≤140737488355328) (hbase:base≤w.heap.size)
    (h:∀ v' w',w'.ownsRow base e size v' (n+m) (xs ++ news)→w.grownBy w' v.ownBlock→(v'.ownBlock=v.ownBlock∨v'.ownBlock=some w.heap.size)→K (a.put o.dst v') w'):Oper.wp P o a w K Q:=by
 obtain ⟨v',w',hr,h2,h3,h4,h5⟩:=run_append_own_at (P:=P) w base t o.type e i z size bytes ht hi hz hsize hby hzs hsz v n xs hown ad m c news hl hnews h1 h63 hbytes hbase
 unfold Oper.wp execOp
 simp only [ho,resolve,invoke,builtin,Sem.run_bind,Sem.run_pure,Result.andThen_ok,List.map_toArray,List.map_cons,List.map_nil,hs,hx,hr]
 exact h v' w' h2 h3 h5
theorem Rows.made (w:World) (n:Nat) (S:Nat→List Hp) (hS:∀ f,S f=[]):Rows (w.alloc (.cells (madeCells #[.slice Option.none 0 0] n) 72)) (w.heap.size+1) w.heap.size n S (madeCells #[.slice Option.none 0 0] n).toList:=by
 have hz:∀ f,f < n→(madeCells #[Value.slice Option.none 0 0] n).toList.getD f undef=.slice Option.none 0 0:=fun f hf=>by
  simp [madeCells,List.getD,hf,Nat.mod_one]
 refine ⟨by rw [Array.toArray_toList]; exact heap_alloc_new _ _,by simp [size_madeCells],by omega,fun f hf=>?_,fun f g hf hg _ m hm=>?_⟩
 ·rw [hz f hf,hS f]
  exact ⟨rfl,.inl ⟨rfl,rfl⟩⟩
 ·rw [hz f hf] at hm
  simp [Value.ownBlock] at hm
theorem set_row {l:List Value} {f:Nat} {v:Value} (hf:f < l.length):(l.toArray.toList.take f ++ (#[v]:Array Value).toList ++ l.toArray.toList.drop (f+(#[v]:Array Value).size)).toArray=(l.set f v).toArray:=by
 rw [List.set_eq_take_append_cons_drop,if_pos hf]
 simp
def Hp.wf (h:Hp):Prop:=(-9223372036854775808≤h.f∧h.f < 9223372036854775808)∧(-9223372036854775808≤h.t∧h.t < 9223372036854775808)∧0≤h.c∧h.c < 4294967296
set_option maxRecDepth 100000 in
set_option maxHeartbeats 4000000 in
theorem rleaving_any (n:Nat) (v:Value) (L:List Hp) (w:World) (h:HopsAt w v L) (hn:1≤n) (hn2:n≤1000) (hL:L.length≤100000) (hwf:∀ h ∈ L,h.wf) :
    Calls Try.prog 54 #[.int .i64 n,v] w fun e w'=>∃ T vs,e=.returned (.slice (some ⟨T,0,none⟩) n n)∧w.heap.size≤T∧Rows w' (T+1) T n (leaveF n L) vs∧Ext w w':=by
 obtain ⟨a,cap,rfl,hm,hf⟩:=h
 obtain ⟨i1,hi1,hz1,hs1,hb1⟩:=info_parts info_hops
 obtain ⟨i2,hi2,hz2,hs2,hb2⟩:=info_parts info_hop
 have I1:=Lib.hid (And.intro hi1 (And.intro hz1 (And.intro hs1 hb1)))
 have I2:=Lib.hid (And.intro hi2 (And.intro hz2 (And.intro hs2 hb2)))
 have HF:=Lib.hid hf
 have HW:=Lib.hid hwf
 have HZH:=Lib.hid zero_hop
 clear hi1 hz1 hs1 hb1 hi2 hz2 hs2 hb2 hf hwf
 go_enter Try.func54,Try.ntmps54
 go_wp2_with (first
  | fail
  | (at_make; refine wpList_make_row _ rfl _ _ 128 rfl 72 i1 (.slice Option.none 0 0) Try.underlying128 I1.out.1 I1.out.2.1 I1.out.2.2.1 rfl .i64 .i64 n rfl rfl (by rw [I1.out.2.2.2]; omega) (by omega) ?_))
 have hR0:=Rows.made w n (leaveF n []) (fun f=>rfl)
 have hE0:Ext w (w.alloc (.cells (madeCells #[.slice Option.none 0 0] n) 72)):=(Ext.refl _).alloc _
 have hT0:w.heap.size≤w.heap.size:=Nat.le_refl _
 generalize hTT:w.heap.size=T at *
 generalize w.alloc (.cells (madeCells #[.slice Option.none 0 0] n) 72)=w1 at *
 generalize (madeCells #[Value.slice Option.none 0 0] n).toList=vs0 at *
 have HT0:=Lib.hid hTT
 clear hTT hT0
 go_loopw [12] (fun i wr=>∃ (k:Nat) (vs:List Value),k≤L.length∧i=.int .i64 k∧Rows wr (T+1) T n (leaveF n (L.take k)) vs∧Ext w wr) (fun i _=>L.length - (intOf i).toNat)
 case atStart=>exact ⟨0,vs0,by omega,rfl,hR0,hE0⟩
 case round =>
  clear hR0 hE0
  obtain ⟨k,vs,hk,rfl,hR,hE⟩:=hrel
  have HR:=Lib.hid hR
  have HE:=Lib.hid hE
  clear hR hE
  by_cases hlt:k < L.length
  ·obtain ⟨b,off,rfl,hb,hc1,hc2,hrg⟩:=HF.out (by omega)
   obtain ⟨h,hh⟩:∃ h,L[k]?=some h:=⟨_,List.getElem?_eq_getElem hlt⟩
   have hw:=HW.out h (List.mem_of_getElem? hh)
   have HS:=Lib.hid (show ∀ f,leaveF n (L.take (k+1)) f=leaveF n (L.take k) f ++ (if (h.ok n && h.f == (f:Int))=true then [h] else []) from fun f=>by
    rw [List.take_add_one,hh]
    exact leaveF_snoc n _ h f)
   have HRG:=Lib.hid (show wr.rangeAt b (off+k*3) [.int .i64 h.f,.int .i64 h.t,.int .u32 h.c] from by
    have hx:h.L=[.int .i64 h.f,.int .i64 h.t,.int .u32 h.c]:=rfl
    rw [← hx,← flatH_at L k h hh]
    have h2:=rangeR_ext hrg HE.out (by rw [HT0.out]; exact hb)
    intro j v hv
    rw [List.getElem?_take] at hv
    split at hv
    ·rw [List.getElem?_drop] at hv
     rw [Nat.add_assoc]
     exact h2 _ _ hv
    ·cases hv)
   have hk8:k < 100000:=by omega
   have hm3:(L.take k).length≤100000:=by rw [List.length_take]; omega
   clear hrg hh
   have hzh:=HZH.out
   go_upto_region 5 with (first
    | fail
    | ((with_reducible refine at_load 100 ?_); refine wpList_load_mid rfl 100 _ rfl b (off+k*3) rfl [.int .i64 h.f,.int .i64 h.t,.int .u32 h.c] _ HRG.out Try.underlying100 rfl (by kernel_rfl) ?_)
    | ((with_reducible refine at_store 100 ?_); refine wpList_store_new3 rfl rfl 100 _ _ _ rfl HZ #[.int .i64 h.f,.int .i64 h.t,.int .u32 h.c] _ rfl ?_ rfl (by kernel_rfl) rfl rfl ?_; · rfl
       intro z1 hz1
       have hx1:Ext wr z1:=by rw [hz1]; exact (Ext.refl _).alloc _
       have hq:=heap_alloc_new wr (.cells #[.int .i64 h.f,.int .i64 h.t,.int .u32 h.c] 100)
       rw [← hz1] at hq
       obtain ⟨H0,hH0⟩:∃ m,wr.heap.size=m:=⟨_,rfl⟩
       rw [hH0] at hq ⊢
       have HQ:=Lib.hid hq
       have HE1:=Lib.hid (HE.out.trans hx1)
       have HR1:=Lib.hid (HR.out.ext hx1)
       have c0:z1.cell? ⟨H0,0,none⟩=some (.int .i64 h.f):=(cell_of_row _ _ _ _ _ _ hq).trans rfl
       have c1:z1.cell? ⟨H0,1,none⟩=some (.int .i64 h.t):=(cell_of_row _ _ _ _ _ _ hq).trans rfl
       have HTH:=Lib.hid (show T < H0 from by rw [← hH0]; exact heap_lt HR.out.row)
       have HOB:=Lib.hid (show ∀ f m,f < n→(vs.getD f undef).ownBlock=some m→m < H0 from fun f m hf hm=>by rw [← hH0]; exact (own_lt2 (HR.out.own f hf) hm).2)
       clear hz1 hx1 hq hH0))
   clear hzh
   by_cases g1:0≤h.f
   rotate_left
   ·have HV:=Lib.hid (show leaveF n (L.take (k+1))=leaveF n (L.take k) from funext fun f=>by rw [HS.out,if_neg (by simp [Hp.ok,g1]),List.append_nil])
    go_wp2_with fail
    go_roundw
    case rel=>exact ⟨k+1,vs,by omega,by go_num,by rw [HV.out]; exact HR1.out,HE1.out⟩
    case measure=>simp [intOf]; omega
   by_cases g2:h.f < n
   rotate_left
   ·have HV:=Lib.hid (show leaveF n (L.take (k+1))=leaveF n (L.take k) from funext fun f=>by rw [HS.out,if_neg (by simp [Hp.ok,g2]),List.append_nil])
    go_wp2_with fail
    go_roundw
    case rel=>exact ⟨k+1,vs,by omega,by go_num,by rw [HV.out]; exact HR1.out,HE1.out⟩
    case measure=>simp [intOf]; omega
   by_cases g3:0≤h.t
   rotate_left
   ·have HV:=Lib.hid (show leaveF n (L.take (k+1))=leaveF n (L.take k) from funext fun f=>by rw [HS.out,if_neg (by simp [Hp.ok,g3]),List.append_nil])
    go_wp2_with fail
    go_roundw
    case rel=>exact ⟨k+1,vs,by omega,by go_num,by rw [HV.out]; exact HR1.out,HE1.out⟩
    case measure=>simp [intOf]; omega
   by_cases g4:h.t < n
   rotate_left
   ·have HV:=Lib.hid (show leaveF n (L.take (k+1))=leaveF n (L.take k) from funext fun f=>by rw [HS.out,if_neg (by simp [Hp.ok,g4]),List.append_nil])
    go_wp2_with fail
    go_roundw
    case rel=>exact ⟨k+1,vs,by omega,by go_num,by rw [HV.out]; exact HR1.out,HE1.out⟩
    case measure=>simp [intOf]; omega
   have hok:h.ok n=true:=by simp [Hp.ok,g1,g2,g3,g4]
   obtain ⟨fn,hfn⟩:∃ fn:Nat,h.f=fn:=⟨h.f.toNat,by omega⟩
   have hfl:fn < n:=by omega
   have HV:=Lib.hid (show leaveF n (L.take (k+1))=fun g=>if g=fn then leaveF n (L.take k) fn ++ [h] else leaveF n (L.take k) g from funext fun g=>by
    rw [HS.out,hok,hfn]
    by_cases e:g=fn
    ·subst e
     rw [if_pos rfl,if_pos (by simp)]
    ·rw [if_neg e,if_neg (by simp; omega),List.append_nil])
   have hlen:(leaveF n (L.take k) fn).length≤100000:=Nat.le_trans (leaveF_len _ _ _) hm3
   go_upto_region 6 with fail
   clear HS
   have hown:=HR1.out.own fn hfl
   have HGT:=Lib.hid (HR1.out.apart)
   obtain ⟨vf,hvf⟩:∃ x,vs.getD fn undef=x:=⟨_,rfl⟩
   have hvl:=HR1.out.len
   have cT:z1.cell? ⟨T,fn,none⟩=some vf:=by
    rw [cell_of_row _ _ _ _ _ _ HR1.out.row,← hvf]
    simp [List.getD,hvl,hfl]
   have HOF:=Lib.hid (show ∀ m,vf.ownBlock=some m→T < m∧m < H0 from fun m hm=>⟨by rw [← hvf] at hm; exact (own_lt2 (HR1.out.own fn hfl) hm).1,HOB.out fn m hfl (by rw [hvf]; exact hm)⟩)
   rw [hvf] at hown
   obtain ⟨av,cv,hvv⟩:=own_form2 hown
   have HOW:=Lib.hid hown
   have HVF:=Lib.hid hvf
   have HVV:=Lib.hid hvv
   have hTl:T < z1.heap.size:=heap_lt HR1.out.row
   have hHl:H0 < z1.heap.size:=heap_lt HQ.out
   have hTF:¬ vf.ownBlock=some T:=fun e=>by have:=HOF.out T e; omega
   have hHF:¬ vf.ownBlock=some H0:=fun e=>by have:=HOF.out H0 e; omega
   have c0f:z1.cell? ⟨H0,0,none⟩=some (.int .i64 fn):=by rw [← hfn]; exact c0
   have hH3:=Lib.hid HQ.out
   clear hown hvf hvv c0 c1
   refine beginW (S:=fun W'=>Mut (fun m=>vf.ownBlock=some m) z1 W') (S2:=fun W'=>Mut (fun m=>m=T∨vf.ownBlock=some m) z1 W') 12 (by kernel_rfl) ?_
   intro wd hqx
   have hq0:Mut (fun m=>vf.ownBlock=some m) z1 wd:=hqx.mut _
   refine takeW (i:=0) (z:=12) (v:=(.slice (some ⟨T,0,none⟩) n n)) rfl rfl (by kernel_rfl) (by kernel_rfl) (by kernel_rfl) (by kernel_rfl) (by kernel_rfl) (by kernel_rfl) (fun _ _ _ h=>h) (Or.inl ⟨rfl,fun _ _=>rfl⟩) hq0 (hq0.mono (fun _ _ e=>.inr e)) ?_
   simp only [ps]
   refine takeW (i:=1) (z:=12) (v:=(.pointer (some ⟨H0,0,none⟩))) rfl rfl (by kernel_rfl) (by kernel_rfl) (by kernel_rfl) (by kernel_rfl) (by kernel_rfl) (by kernel_rfl) (fun _ _ _ h=>h) (Or.inl ⟨rfl,fun _ _=>rfl⟩) hq0 (hq0.mono (fun _ _ e=>.inr e)) ?_
   simp only [ps]
   refine takeW (i:=2) (z:=12) (v:=_) rfl rfl (by kernel_rfl) (by kernel_rfl) (by kernel_rfl) (by kernel_rfl) (by kernel_rfl) (by kernel_rfl) (fun _ _ _ h=>h) (yieldsIf_cell rfl 3 _ rfl ⟨H0,0,none⟩ rfl (.int .i64 (fn:Int)) _ (fun W' hW'=>(hW'.cell (p:=⟨H0,0,none⟩) hHl hHF).trans c0f) Try.underlying3 rfl) hq0 (hq0.mono (fun _ _ e=>.inr e)) ?_
   simp only [ps]
   refine takeW (i:=3) (z:=12) (v:=(.slice (some ⟨T,0,none⟩) n n)) rfl rfl (by kernel_rfl) (by kernel_rfl) (by kernel_rfl) (by kernel_rfl) (by kernel_rfl) (by kernel_rfl) (fun _ _ _ h=>h) (Or.inl ⟨rfl,fun _ _=>rfl⟩) hq0 (hq0.mono (fun _ _ e=>.inr e)) ?_
   simp only [ps]
   refine takeW (i:=4) (z:=12) (v:=(.pointer (some ⟨H0,0,none⟩))) rfl rfl (by kernel_rfl) (by kernel_rfl) (by kernel_rfl) (by kernel_rfl) (by kernel_rfl) (by kernel_rfl) (fun _ _ _ h=>h) (Or.inl ⟨rfl,fun _ _=>rfl⟩) hq0 (hq0.mono (fun _ _ e=>.inr e)) ?_
   simp only [ps]
   refine takeW (i:=5) (z:=12) (v:=_) rfl rfl (by kernel_rfl) (by kernel_rfl) (by kernel_rfl) (by kernel_rfl) (by kernel_rfl) (by kernel_rfl) (fun _ _ _ h=>h) (yieldsIf_cell rfl 3 _ rfl ⟨H0,0,none⟩ rfl (.int .i64 (fn:Int)) _ (fun W' hW'=>(hW'.cell (p:=⟨H0,0,none⟩) hHl hHF).trans c0f) Try.underlying3 rfl) hq0 (hq0.mono (fun _ _ e=>.inr e)) ?_
   simp only [ps]
   refine takeW (i:=6) (z:=12) (v:=(.pointer (some ⟨T,fn,none⟩))) rfl rfl (by kernel_rfl) (by kernel_rfl) (by kernel_rfl) (by kernel_rfl) (by kernel_rfl) (by kernel_rfl) (fun _ _ _ h=>h) (Or.inl ⟨rfl,fun W' _=>by go_simp⟩) hq0 (hq0.mono (fun _ _ e=>.inr e)) ?_
   simp only [ps]
   refine takeW (i:=7) (z:=12) (v:=_) rfl rfl (by kernel_rfl) (by kernel_rfl) (by kernel_rfl) (by kernel_rfl) (by kernel_rfl) (by kernel_rfl) (fun _ _ _ h=>h) (yieldsIf_cell rfl 72 _ rfl ⟨T,fn,none⟩ rfl vf _ (fun W' hW'=>(hW'.cell (p:=⟨T,fn,none⟩) hTl hTF).trans cT) Try.underlying72 rfl) hq0 (hq0.mono (fun _ _ e=>.inr e)) ?_
   simp only [ps]
   refine takeW (i:=8) (z:=12) (v:=_) rfl rfl (by kernel_rfl) (by kernel_rfl) (by kernel_rfl) (by kernel_rfl) (by kernel_rfl) (by kernel_rfl) (fun _ _ _ h=>h) (yieldsIf_rowS rfl 100 _ rfl H0 rfl #[.int .i64 h.f,.int .i64 h.t,.int .u32 h.c] _ _ (fun W' hW'=>(hW'.heap hHl hHF).trans hH3.out) Try.underlying100 rfl (by kernel_rfl)) hq0 (hq0.mono (fun _ _ e=>.inr e)) ?_
   simp only [ps]
   refine runW (i:=9) rfl rfl (by kernel_rfl) (fun _ h=>h.mono (fun _ _ e=>.inr e)) (fun K hK=>?_)
   refine wp_buildSlice 72 100 1 _ rfl #[.int .i64 h.f,.int .i64 h.t,.int .u32 h.c] i2 (.agg HZ) Try.underlying72 I2.out.1 I2.out.2.1 (by rw [I2.out.2.2.1]; decide) (by rw [I2.out.2.2.1]; decide) (by rw [I2.out.2.2.1,Array.toList_map]; exact hop_b1 _ _ _) ?_
   have hq1:Mut (fun m=>vf.ownBlock=some m) z1 (wd.alloc (.cells #[.int .i64 h.f,.int .i64 h.t,.int .u32 h.c] 100)):=(hqx.alloc _).mut _
   have hxa:=hqx.alloc (.cells #[.int .i64 h.f,.int .i64 h.t,.int .u32 h.c] 100)
   have hnw:=heap_alloc_new wd (.cells #[.int .i64 h.f,.int .i64 h.t,.int .u32 h.c] 100)
   obtain ⟨wa,hwa⟩:∃ W,wd.alloc (.cells #[.int .i64 h.f,.int .i64 h.t,.int .u32 h.c] 100)=W:=⟨_,rfl⟩
   obtain ⟨nb,hnb⟩:∃ m,wd.heap.size=m:=⟨_,rfl⟩
   rw [hwa] at hq1 hxa hnw ⊢
   rw [hnb] at hnw ⊢
   have hnz:z1.heap.size≤nb:=by rw [← hnb]; exact hqx.size
   clear hwa hnb
   refine hK.out _ _ hq1 (fun _=>?_)
   try simp only [ps]
   clear hK K
   refine runW (i:=10) rfl rfl (by kernel_rfl) (fun _ h=>h.mono (fun _ _ e=>.inr e)) (fun K hK=>?_)
   refine oper_append_own_at _ _ 72 rfl (T+1) 100 i2 (.agg HZ) 3 24 Try.underlying72 I2.out.1 I2.out.2.1 I2.out.2.2.1 I2.out.2.2.2 rfl (by decide) vf (leaveF n (L.take k) fn).length (flatH (leaveF n (L.take k) fn)) rfl (own_keep2 HOW.out (fun g hg=>hxa.block g (own_lt2 HOW.out hg).2)) ⟨nb,0,none⟩ 1 1 h.L rfl rfl ?hnews (fun u hu=>by
    have hu2:u=.int .i64 h.f∨u=.int .i64 h.t∨u=.int .u32 h.c:=by simpa [Hp.L] using hu
    rcases hu2 with rfl | rfl | rfl <;> rfl) (by unfold maxLen; omega) (by omega) (by have:=heap_lt hnw; omega) ?hfin
   case hnews=>exact fun j u hu=>World.news_of_block hnw j u (by simpa [Hp.L] using hu)
   case hfin =>
    intro v' w2 ho2 hgb hloc
    have hwl:=hxa.size
    have hbl:∀ m,m < z1.heap.size→vf.ownBlock ≠ some m→w2.heap[m]?=z1.heap[m]?:=fun m hm hne=>(hgb.block m (by omega) (fun e=>hne e.symm)).trans (hxa.block m hm)
    have hq2:Mut (fun m=>vf.ownBlock=some m) z1 w2:=⟨hgb.os.trans hxa.os,hgb.tape.trans hxa.tape,hgb.output.trans hxa.output,by have:=hgb.size; omega,fun m hm hne=>hbl m hm hne⟩
    have hTw:w2.heap[T]?=some (.cells vs.toArray 72 (0,0)):=(hbl T hTl hTF).trans HR1.out.row
    obtain ⟨a9,c9,hv9⟩:=own_form2 ho2
    refine hK.out _ _ hq2 (fun _=>?_)
    try simp only [ps]
    clear hK K
    refine takeW (i:=11) (z:=12) (v:=(.pointer (some ⟨T,fn,none⟩))) rfl rfl (by kernel_rfl) (by kernel_rfl) (by kernel_rfl) (by kernel_rfl) (by kernel_rfl) (by kernel_rfl) (fun _ _ _ h=>h) (Or.inl ⟨rfl,fun W' _=>by go_simp⟩) hq2 (hq2.mono (fun _ _ e=>.inr e)) ?_
    simp only [ps]
    refine runWl (z:=12) rfl rfl (by kernel_rfl) (fun K hK=>?_)
    refine wp_st_at rfl 72 _ _ rfl T fn _ #[v'] _ (vs.set fn v').toArray _ rfl rfl (by rw [hv9]; rfl) hTw (by show fn+1≤vs.toArray.size; rw [List.size_toArray,hvl]; exact hfl) (by kernel_rfl) (by rw [hv9]; rfl) (set_row (by rw [hvl]; exact hfl)) (fun w3 hT3 hm3=>?_)
    have hq3:Mut (fun m=>m=T∨vf.ownBlock=some m) z1 w3:=(hq2.mono (fun _ _ e=>.inr e)).trans (hm3.mono (fun _ _ e=>.inl e))
    refine hK.out _ _ hq3 (fun _=>?_)
    try simp only [ps]
    clear hK K
    refine wpAnyH_done (by kernel_rfl) ?_ _
    have HPUT:=Lib.hid (HR1.out.put (w1:=w2) (w2:=w3) (f:=fn) (x:=h) (v':=v') hfl ho2 (fun m hm hne=>hbl m hm (by rw [← HVF.out]; exact hne)) (by
     rw [HVF.out]
     rcases hloc with e | e
     ·exact .inl e
     ·exact .inr ⟨_,e,hwl⟩) hT3 (fun m hm hne=>hm3.heap hm hne))
    have hEE:Ext w w3:=Ext.mutE HE1.out hq3 (fun m hm e=>by
     have h0:=HT0.out
     rcases e with e | e
     ·omega
     ·have:=HOF.out m e; omega)
    go_wp2_with fail
    go_roundw
    case rel=>exact ⟨k+1,vs.set fn v',by omega,by go_num,by rw [HV.out]; exact HPUT.out,hEE⟩
    case measure=>simp [intOf]; omega
  ·obtain rfl:k=L.length:=by omega
   have HRE:=Lib.hid (show Rows wr (T+1) T n (leaveF n L) vs by
    have h:=HR.out
    rw [List.take_length] at h
    exact h)
   clear HR
   go_wp2_with fail
   go_ret
   exact ⟨T,vs,rfl,by rw [HT0.out]; exact Nat.le_refl _,HRE.out,HE.out⟩
end Go.Proofs.Ytamnmjckhicapaa
namespace Go.Proofs.Ytamnmjckhicapaa
open Go.RowKit Go.BigFrame Go.WideShapes Go.ChangeShapes Go.Deep
set_option linter.unusedVariables false
set_option linter.unusedSimpArgs false
set_option maxRecDepth 100000
def rel1 (k:Nat) (D:List Way) (h:Hp):List Way:=match D.getD k Option.none with
 | .none=>D
 | .some (a,b)=>if shW (a+h.c.toNat) (b+1) (D.getD h.t.toNat Option.none)=true then D.set h.t.toNat (Option.some (a+h.c.toNat,b+1)) else D
def relA (k:Nat) (D:List Way) (hs:List Hp):List Way:=hs.foldl (rel1 k) D
theorem relA_snoc (k:Nat) (D:List Way) (hs:List Hp) (h:Hp):relA k D (hs ++ [h])=rel1 k (relA k D hs) h:=by simp [relA]
inductive Rch (n:Nat) (L:List Hp) (s:Nat):Nat→List Way→List Bool→Int→Prop
 | zero:Rch n L s 0 ((List.replicate n Option.none).set s (Option.some (0,0))) (List.replicate n false) s
 | step {t:Nat} {D:List Way} {dn:List Bool} {k:Nat}:Rch n L s t D dn k→k < n→Rch n L s (t+1) (relA k D (leaveF n L k)) (dn.set k true) (nearF (relA k D (leaveF n L k)) (dn.set k true) n)
structure Wk (n t:Nat) (D:List Way):Prop where
 len:D.length=n
 small:∀ i a b,D.getD i Option.none=Option.some (a,b)→b≤t∧a≤t*4294967295
theorem Wk.fits {n t:Nat} {D:List Way} (h:Wk n t D) (ht:t≤1001) (i:Nat):(D.getD i Option.none).fits:=by
 cases hd:D.getD i Option.none with
 | none=>trivial
 | some q =>
  obtain ⟨a,b⟩:=q
  have h2:=h.small i a b hd
  constructor
  ·show a < 2 ^ 53
   omega
  ·show b < 2 ^ 53
   omega
theorem getD_setW {D:List Way} {i j:Nat} {q:Way}:(D.set i q).getD j Option.none=if i=j∧i < D.length then q else D.getD j Option.none:=by
 simp only [List.getD_eq_getElem?_getD,List.getElem?_set]
 by_cases e:i=j
 ·subst e
  by_cases h:i < D.length
  ·rw [if_pos rfl,if_pos h,if_pos ⟨rfl,h⟩]; rfl
  ·rw [if_pos rfl,if_neg h,if_neg (fun h2=>h h2.2),List.getElem?_eq_none (by omega)]
 ·rw [if_neg e,if_neg (fun h2=>e h2.1)]
theorem rel1_len (k:Nat) (D:List Way) (h:Hp):(rel1 k D h).length=D.length:=by
 unfold rel1
 split
 ·rfl
 ·split
  ·rw [List.length_set]
  ·rfl
theorem relA_len (k:Nat):∀ (hs:List Hp) (D:List Way),(relA k D hs).length=D.length
 | [],_=>rfl
 | h :: hs,D=>by
  show (relA k (rel1 k D h) hs).length=_
  rw [relA_len k hs,rel1_len]
theorem rel1_self {k:Nat} {D:List Way} {h:Hp} {q:Nat × Nat} (hq:D.getD k Option.none=Option.some q):(rel1 k D h).getD k Option.none=Option.some q:=by
 obtain ⟨a,b⟩:=q
 unfold rel1
 rw [hq]
 dsimp only
 split
 ·rename_i hs
  rw [getD_setW]
  split
  ·rename_i e
   rw [e.1,hq] at hs
   simp only [shW,ltW,Bool.or_eq_true,decide_eq_true_eq,Bool.and_eq_true,beq_iff_eq] at hs
   omega
  ·exact hq
 ·exact hq
theorem relA_self {k:Nat} {q:Nat × Nat}:∀ (hs:List Hp) (D:List Way),D.getD k Option.none=Option.some q→(relA k D hs).getD k Option.none=Option.some q
 | [],_,h=>h
 | h :: hs,D,hq=>relA_self hs _ (rel1_self hq)
theorem rel1_small {k t:Nat} {D:List Way} {h:Hp} {a0 b0:Nat} (hq:D.getD k Option.none=Option.some (a0,b0)) (hb0:b0≤t∧a0≤t*4294967295) (hc:h.c.toNat≤4294967295) (hs:∀ i a b,D.getD i Option.none=Option.some (a,b)→b≤t+1∧a≤(t+1)*4294967295) :
    ∀ i a b,(rel1 k D h).getD i Option.none=Option.some (a,b)→b≤t+1∧a≤(t+1)*4294967295:=by
 intro i a b hi
 unfold rel1 at hi
 rw [hq] at hi
 dsimp only at hi
 split at hi
 ·rw [getD_setW] at hi
  split at hi
  ·cases hi
   omega
  ·exact hs i a b hi
 ·exact hs i a b hi
theorem relA_small {k t:Nat} {a0 b0:Nat} (hb0:b0≤t∧a0≤t*4294967295):∀ (hs:List Hp) (D:List Way),(∀ h ∈ hs,h.c.toNat≤4294967295)→D.getD k Option.none=Option.some (a0,b0)→(∀ i a b,D.getD i Option.none=Option.some (a,b)→b≤t+1∧a≤(t+1)*4294967295) →
    ∀ i a b,(relA k D hs).getD i Option.none=Option.some (a,b)→b≤t+1∧a≤(t+1)*4294967295
 | [],_,_,_,h=>h
 | h :: hs,D,hc,hq,hs0=>relA_small hb0 hs _ (fun x hx=>hc x (List.mem_cons_of_mem _ hx)) (rel1_self hq) (rel1_small hq hb0 (hc h List.mem_cons_self) hs0)
def cnt (l:List Bool):Nat:=(l.filter id).length
theorem cnt_set:∀ (l:List Bool) (k:Nat),k < l.length→l.getD k false=false→cnt (l.set k true)=cnt l+1
 | [],k,hk,_=>by simp at hk
 | b :: l,0,_,hb=>by
  obtain rfl:b=false:=by simpa using hb
  simp [cnt]
 | b :: l,k+1,hk,hb=>by
  have ih:=cnt_set l k (by simpa using hk) (by simpa using hb)
  unfold cnt at ih ⊢
  cases b <;> simp [ih]
theorem cnt_le (l:List Bool):cnt l≤l.length:=List.length_filter_le _ _
theorem leave_c {n:Nat} {L:List Hp} (hw:∀ h ∈ L,h.wf) (k:Nat):∀ h ∈ leaveF n L k,h.c.toNat≤4294967295:=fun h hh=>by
 have:=(hw h (List.mem_filter.1 hh |>.1)).2.2
 omega
theorem Rch.facts {n:Nat} {L:List Hp} {s t:Nat} {D:List Way} {dn:List Bool} {at_:Int} (h:Rch n L s t D dn at_) (hs:s < n) (hw:∀ h ∈ L,h.wf) :
    Wk n t D∧dn.length=n∧cnt dn=t∧(at_=-1∨∃ k:Nat,k < n∧at_=k∧dn.getD k false=false∧∃ q,D.getD k Option.none=Option.some q):=by
 induction h with
 | zero =>
  refine ⟨⟨by simp,fun i a b hi=>?_⟩,by simp,?_,.inr ⟨s,hs,rfl,by simp [List.getD,hs],(0,0),?_⟩⟩
  ·rw [getD_setW] at hi
   split at hi
   ·cases hi
    omega
   ·simp only [List.getD_eq_getElem?_getD,List.getElem?_replicate] at hi
    split at hi <;> simp at hi
  ·have:∀ m,cnt (List.replicate m false)=0:=fun m=>by
    unfold cnt
    rw [List.filter_eq_nil_iff.2 (fun a ha=>by
     have:=List.eq_of_mem_replicate ha
     simp [this])]
    rfl
   exact this n
  ·rw [getD_setW,if_pos ⟨rfl,by simpa using hs⟩]
 | step hr hk ih =>
  rename_i t D dn k
  obtain ⟨w1,l2,c3,h4⟩:=ih
  rcases h4 with h4 | ⟨k2,hk2,e,hd,⟨a,b⟩,hq⟩
  ·omega
  ·obtain rfl:k=k2:=by omega
   have hsm:=w1.small k a b hq
   refine ⟨⟨by rw [relA_len]; exact w1.len,fun i x y hi=>relA_small hsm _ _ (leave_c hw k) hq (fun i x y hi=>by have:=w1.small i x y hi; omega) i x y hi⟩,by rw [List.length_set]; exact l2,by rw [cnt_set _ _ (by omega) hd,c3],?_⟩
   exact nearF_rg _ _ n
theorem Rch.bound {n:Nat} {L:List Hp} {s t:Nat} {D:List Way} {dn:List Bool} {at_:Int} (h:Rch n L s t D dn at_) (hs:s < n) (hw:∀ h ∈ L,h.wf):t≤n:=by
 obtain ⟨-,l,c,-⟩:=h.facts hs hw
 have:=cnt_le dn
 omega
end Go.Proofs.Ytamnmjckhicapaa
namespace Go.Proofs.Ytamnmjckhicapaa
open Go.RowKit Go.BigFrame Go.WideShapes Go.ChangeShapes Go.Deep
set_option linter.unusedVariables false
set_option linter.unusedSimpArgs false
set_option maxRecDepth 100000
theorem made_rep (z:Value) (n:Nat):madeCells #[z] n=(List.replicate n z).toArray:=by
 apply Array.ext'
 apply List.ext_getElem?
 intro i
 by_cases h:i < n
 ·simp [madeCells,h,Nat.mod_one,List.getElem?_replicate]
 ·rw [List.getElem?_eq_none (by simp [madeCells]; omega),List.getElem?_eq_none (by simp; omega)]
theorem cv00:cvW (Option.some (0,0))=.complex .f64 0 0:=by
 show Value.complex .f64 (fl 0) (fl 0)=_
 rw [fl_zero]
structure FarM (w:World) (g1 g2 T n:Nat) (S:Nat→List Hp) (vs:List Value) (D:List Way) (dn:List Bool):Prop where
 way:w.heap[g1]?=some (.cells (D.map cvW).toArray 84 (0,0))
 don:w.heap[g2]?=some (.cells (dn.map Value.bool).toArray 4 (0,0))
 rows:Rows w (T+1) T n S vs
 n12:g1 ≠ g2
 nT:T ≠ g1∧T ≠ g2
 own:∀ f m,f < n→(vs.getD f undef).ownBlock=some m→m ≠ g1∧m ≠ g2
theorem FarM.ext {w w':World} {g1 g2 T n:Nat} {S:Nat→List Hp} {vs:List Value} {D:List Way} {dn:List Bool} (h:FarM w g1 g2 T n S vs D dn) (hx:Ext w w'):FarM w' g1 g2 T n S vs D dn :=
 ⟨(hx.block _ (heap_lt h.way)).trans h.way,(hx.block _ (heap_lt h.don)).trans h.don,h.rows.ext hx,h.n12,h.nT,h.own⟩
theorem FarM.setWay {w w':World} {g1 g2 T n:Nat} {S:Nat→List Hp} {vs:List Value} {D D':List Way} {dn:List Bool} (h:FarM w g1 g2 T n S vs D dn) (hq:w'.heap[g1]?=some (.cells (D'.map cvW).toArray 84 (0,0))) (hm:Mut (fun m=>m=g1) w w'):FarM w' g1 g2 T n S vs D' dn :=
 ⟨hq,(hm.heap (heap_lt h.don) (Ne.symm h.n12)).trans h.don,h.rows.keep (hm.heap (heap_lt h.rows.row) h.nT.1) (fun f g hf hg=>hm.heap (own_lt2 (h.rows.own f hf) hg).2 (h.own f g hf hg).1),h.n12,h.nT,h.own⟩
theorem FarM.setDone {w w':World} {g1 g2 T n:Nat} {S:Nat→List Hp} {vs:List Value} {D:List Way} {dn dn':List Bool} (h:FarM w g1 g2 T n S vs D dn) (hq:w'.heap[g2]?=some (.cells (dn'.map Value.bool).toArray 4 (0,0))) (hm:Mut (fun m=>m=g2) w w'):FarM w' g1 g2 T n S vs D dn' :=
 ⟨(hm.heap (heap_lt h.way) h.n12).trans h.way,hq,h.rows.keep (hm.heap (heap_lt h.rows.row) h.nT.2) (fun f g hf hg=>hm.heap (own_lt2 (h.rows.own f hf) hg).2 (h.own f g hf hg).2),h.n12,h.nT,h.own⟩
theorem FarM.wayAt {w:World} {g1 g2 T n:Nat} {S:Nat→List Hp} {vs:List Value} {D:List Way} {dn:List Bool} (h:FarM w g1 g2 T n S vs D dn):WayAt w g1 D:=⟨heap_lt h.way,fun i hi=>by
 rw [cell_of_row _ _ _ _ _ _ h.way]
 simp [List.getD,hi]⟩
theorem FarM.boolAt {w:World} {g1 g2 T n:Nat} {S:Nat→List Hp} {vs:List Value} {D:List Way} {dn:List Bool} (h:FarM w g1 g2 T n S vs D dn):BoolAt w g2 dn:=⟨heap_lt h.don,fun i hi=>by
 rw [cell_of_row _ _ _ _ _ _ h.don]
 simp [List.getD,hi]⟩
theorem FarM.cellT {w:World} {g1 g2 T n:Nat} {S:Nat→List Hp} {vs:List Value} {D:List Way} {dn:List Bool} (h:FarM w g1 g2 T n S vs D dn) {k:Nat} (hk:k < n):w.cell? ⟨T,k,none⟩=some (vs.getD k undef):=by
 rw [cell_of_row _ _ _ _ _ _ h.rows.row]
 have:=h.rows.len
 simp [List.getD,this,hk]
theorem way_row {D:List Way} {k:Nat} (q:Way) (hk:k < D.length):((D.map cvW).toArray.toList.take k ++ (#[cvW q]:Array Value).toList ++ (D.map cvW).toArray.toList.drop (k+(#[cvW q]:Array Value).size)).toArray=((D.set k q).map cvW).toArray:=by
 rw [set_row (by simpa using hk),List.map_set]
theorem bool_row {D:List Bool} {k:Nat} (q:Bool) (hk:k < D.length):((D.map Value.bool).toArray.toList.take k ++ (#[Value.bool q]:Array Value).toList ++ (D.map Value.bool).toArray.toList.drop (k+(#[Value.bool q]:Array Value).size)).toArray=((D.set k q).map Value.bool).toArray:=by
 rw [set_row (by simpa using hk),List.map_set]
theorem cvW_cells (q:Way):(cvW q).cells=#[cvW q]:=by cases q <;> rfl
theorem own_range {w:World} {base size n g cap:Nat} {e:TypeId} {xs:List Value} (h:w.ownsRow base e size (.slice (some ⟨g,0,none⟩) n cap) n xs):w.rangeAt g 0 xs:=fun j v hv=>by
 rcases h.2 with ⟨h0,-⟩ | ⟨g2,cap2,cur,e1,e2,e3,e4,e5,e6,e7⟩
 ·cases h0
 ·cases e1
  rw [Nat.zero_add,cell_of_row _ _ _ _ _ _ e3]
  rw [← e7,List.getElem?_take] at hv
  split at hv
  ·simpa using hv
  ·cases hv
def readB (w:World) (g n:Nat):List Bool:=(List.range n).map fun i=>match w.cell? ⟨g,i,none⟩ with | some (.bool b)=>b | _=>false
theorem readB_eq {w:World} {g n:Nat} {dn:List Bool} (h:BoolAt w g dn) (hl:dn.length=n):readB w g n=dn:=by
 apply List.ext_getElem?
 intro i
 unfold readB
 by_cases hi:i < n
 ·rw [List.getElem?_map,List.getElem?_range hi]
  have:=h.2 i (by omega)
  simp only [Option.map_some,this]
  rw [List.getElem?_eq_getElem (by omega)]
  simp [List.getD,List.getElem?_eq_getElem (show i < dn.length by omega)]
 ·rw [List.getElem?_eq_none (by simp; omega),List.getElem?_eq_none (by omega)]
theorem rep_step {α:Type} (x y:α) (n k:Nat) (hk:k < n):(List.replicate k x ++ List.replicate (n - k) y).set k x=List.replicate (k+1) x ++ List.replicate (n - (k+1)) y:=by
 apply List.ext_getElem?
 intro i
 rw [List.getElem?_set]
 by_cases e:k=i
 ·subst e
  rw [if_pos rfl,if_pos (by simp; omega),List.getElem?_append_left (by simp),List.getElem?_replicate,if_pos (by omega)]
 ·rw [if_neg e]
  by_cases h:i < k
  ·rw [List.getElem?_append_left (by simpa using h),List.getElem?_append_left (by simp; omega),List.getElem?_replicate,List.getElem?_replicate,if_pos h,if_pos (by omega)]
  ·rw [List.getElem?_append_right (by simp; omega),List.getElem?_append_right (by simp; omega),List.getElem?_replicate,List.getElem?_replicate]
   simp only [List.length_replicate]
   by_cases h2:i < n
   ·rw [if_pos (by omega),if_pos (by omega)]
   ·rw [if_neg (by omega),if_neg (by omega)]
end Go.Proofs.Ytamnmjckhicapaa
