/- Part 21 of what PlanVersions stands on. No statement is proved here. -/
import Derived.Lib.AppendZerosOnto
import Derived.Test.YtamnmjckhicapaaPtFt
namespace Go.Proofs.Ytamnmjckhicapaa
open Go.RowKit Go.BigFrame Go.WideShapes Go.ChangeShapes Go.Deep
set_option linter.unusedVariables false
set_option linter.unusedSimpArgs false
set_option maxRecDepth 100000
theorem kp16:Maps.Keyed Try.prog 65:=Maps.int_keyed Try.underlying65
theorem kp64:Maps.Keyed Try.prog 53:=Maps.int_keyed Try.underlying53
theorem key16 {x:Int} (h:0≤x∧x < 65536):keyOf Try.prog 65 (.int .u16 x)=some (.int .u16 x):=Maps.keyOf_int_mk Try.underlying65 (wfu16 h)
theorem key64 {x:Int} (h:0≤x∧x < 18446744073709551616):keyOf Try.prog 53 (.int .u64 x)=some (.int .u64 x):=Maps.keyOf_int_mk Try.underlying53 (wfu64 h)
def SetM (w:World) (KT:TypeId) (b n:Nat) (L:List Lit):Prop:=∃ D:DataW Unit,w.ownsMap Try.prog KT (plainElem Try.prog 4) b n D∧Maps.IsMap D∧∀ k,WideAt.IsKeyLit k→k ∉ L→∀ z,D.atKey k z=z
theorem SetM.look {w:World} {KT MT:TypeId} {b n:Nat} {L:List Lit} (h:SetM w KT b n L) (K:Maps.Keyed Try.prog KT) (ht:Try.prog.underlying MT=some (.map KT 4)) {key:Value} {kl:Lit} (hk:keyOf Try.prog KT key=some kl) (hn:kl ∉ L) :
    (Instr.lookup MT (.map (some b)) key false).run Try.prog w=.ok (.bool false) w:=by
 obtain ⟨D,⟨es,clock,hb,F,_,rfl⟩,-,hat⟩:=h
 have hz:(zeroValue 4).run Try.prog w=.ok (.bool false) w:=(zero_of_info (P:=Try.prog) (t:=4) (v:=.bool false) (n:=1) (by kernel_rfl)).1 w
 have hkl:=K.key hk
 rcases Maps.fit_look false K ht hz hb F hk with ⟨hrun,_,h2⟩ | ⟨e0,y,_,_,hrun,hRv,h2,_⟩
 ·rw [hrun]
  rfl
 ·have h3:=hat kl hkl hn (.lit (.bool false))
  have h4:=hat kl hkl hn (.lit (.bool true))
  rw [h2] at h3 h4
  rw [h3] at h4
  simp at h4
theorem SetM.put {w:World} {KT MT:TypeId} {b n:Nat} {L:List Lit} (h:SetM w KT b n L) (K:Maps.Keyed Try.prog KT) (ht:Try.prog.underlying MT=some (.map KT 4)) (hn:n < maxLen) {key:Value} {kl:Lit} (hk:keyOf Try.prog KT key=some kl) :
    ∃ w',(Instr.mapUpdate MT (.map (some b)) key (.bool true)).run Try.prog w=.ok () w'∧SetM w' KT b (n+1) (L ++ [kl])∧w.grownBy w' (some b):=by
 obtain ⟨D,hm,hD,hat⟩:=h
 obtain ⟨w',hrun,hm',hg⟩:=hm.update K ht hn hk (plainElem_bool Try.underlying4 true)
 refine ⟨w',hrun,⟨_,hm',?_,fun x hx hxl z=>?_⟩,hg⟩
 ·obtain ⟨es,rfl⟩:=hD
  exact ⟨_,DataW.put_eq _ _ _⟩
 ·simp only [List.mem_append,List.mem_singleton,not_or] at hxl
  rw [Maps.atKey_put_other hxl.2,hat x hx hxl.1 z]
theorem SetM.made (w:World) (KT:TypeId):SetM (w.alloc (.map #[] 0)) KT w.heap.size 0 []:=⟨_,World.ownsMap_made w _ _ _,Maps.isMap_empty,fun _ _ _ _=>rfl⟩
theorem at_mk (T:TypeId) {P:Program} {ops:Array Oper} {rest:List Oper} {a:Act} {w:World} {Q:Exit→Act→World→Prop} {d:Option Tmp} {ty:TypeId} {pos:String} {af:Array Edge}
    (h:wpList P ops Q ({ dst:=d,op:=.makeMap T none,type:=ty,pos:=pos,after:=af,guard:=none } :: rest) a w):wpList P ops Q ({ dst:=d,op:=.makeMap T none,type:=ty,pos:=pos,after:=af,guard:=none } :: rest) a w:=h
theorem wpList_mk {P:Program} {ops:Array Oper} {rest:List Oper} {o:Oper} {a:Act} {w:World} {Q:Exit→Act→World→Prop} (hgd:o.guard=none) (t:TypeId) (ho:o.op=.makeMap t none) (hmk:(Instr.makeMap t none).run P w=.ok (.map (some w.heap.size)) (w.alloc (.map #[] 0)))
    (h:∀ b w',w'=w.alloc (.map #[] 0)→w.heap.size=b→wpList P ops Q rest (a.put o.dst (.map (some b))) w'):wpList P ops Q (o :: rest) a w :=
 wpList_plain hgd fun _ hK=>oper_makeMap t ho hmk (fun b w' _ hs hw=>hK _ _ (h b w' hw hs))
theorem SetM.blk {w w':World} {KT:TypeId} {b n:Nat} {L:List Lit} (h:SetM w KT b n L) (hx:w'.heap[b]?=w.heap[b]?):SetM w' KT b n L:=by
 obtain ⟨D,hm,h1⟩:=h
 obtain ⟨es,clock,hb,h2⟩:=hm
 exact ⟨D,⟨es,clock,hx.trans hb,h2⟩,h1⟩
theorem SetM.lt {w:World} {KT:TypeId} {b n:Nat} {L:List Lit} (h:SetM w KT b n L):b < w.heap.size:=by
 obtain ⟨D,⟨es,clock,hb,_⟩,_⟩:=h
 exact heap_lt hb
theorem SetM.ext {w w':World} {KT:TypeId} {b n:Nat} {L:List Lit} (h:SetM w KT b n L) (hx:Ext w w'):SetM w' KT b n L:=h.blk (hx.block b h.lt)
theorem wpList_setU {ops:Array Oper} {rest:List Oper} {o:Oper} {a:Act} {w:World} {Q:Exit→Act→World→Prop} {KT MT:TypeId} (hg:o.guard=none) (m x v:Operand) (hop:o.op=Op.mapUpdate MT m x v) (K:Maps.Keyed Try.prog KT) (ht:Try.prog.underlying MT=some (.map KT 4)) (b:Nat) (key:Value) (kl:Lit) (hm:a.eval m=.map (some b)) (hx:a.eval x=key) (hv:a.eval v=.bool true)
    {n:Nat} {L:List Lit} (h:SetM w KT b n L) (hn:n < maxLen) (hk:keyOf Try.prog KT key=some kl)
    (hK:∀ w',SetM w' KT b (n+1) (L ++ [kl])→w.grownBy w' (some b)→wpList Try.prog ops Q rest (a.put o.dst undef) w'):wpList Try.prog ops Q (o :: rest) a w:=by
 obtain ⟨w',hrun,h1,h2⟩:=h.put K ht hn hk
 refine wpList_plain hg fun K hK'=>?_
 unfold Oper.wp
 simp [execOp,hop,hm,hx,hv,hrun,Result.andThen]
 exact hK' _ _ (hK w' h1 h2)
def PortsR (P:List Pt):Prop:=(∀ p ∈ P,PtR p∧1≤p.cost∧p.cost≤200000000)∧(P.map (fun p=>p.pid % 4096)).Nodup
def seen16 (P:List Pt):List Lit:=P.map (fun p=>.int .u16 (p.pid % 4096))
set_option maxRecDepth 100000 in
set_option maxHeartbeats 4000000 in
theorem rports_any (pv:Value) (P:List Pt) (w:World) (hP:PtsAt w pv P) (hr:PortsR P):Calls Try.prog 49 #[pv] w fun e w'=>e=.returned (.bool true)∧Ext w w':=by
 obtain ⟨pa,pcap,hpe,hpm,hpf⟩:=hP
 obtain ⟨n,hn⟩:∃ m,P.length=m:=⟨_,rfl⟩
 rw [hn] at hpe hpm hpf
 subst hpe
 have HPF:=Lib.hid (show 0 < n→∃ b off,pa=some ⟨b,off,none⟩∧b < w.heap.size∧n≤pcap∧pcap≤9223372036854775807∧∀ i,i < n→w.rangeAt b (off+i*5) (P.getD i default).L from hpf)
 have HNN:=Lib.hid hn
 have HR:=Lib.hid hr
 clear hpf hn hr
 go_enter Try.func49,Try.ntmps49
 go_wp2_with (first
  | fail
  | ((with_reducible refine at_mk 158 ?_); refine wpList_mk rfl 158 rfl rfl ?_
     intro mb w1 hw hs
     have HX1:=Lib.hid (show Ext w w1 from by rw [hw]; exact (Ext.refl _).alloc _)
     have HM1:=Lib.hid (show SetM w1 65 mb 0 [] from by rw [hw,← hs]; exact SetM.made _ _)
     have HMW:=Lib.hid (show w.heap.size≤mb from Nat.le_of_eq hs)
     clear hw hs))
 go_loopw [10] (fun s wr=>∃ (k:Nat) (wo:World),wo=wr∧s=.int .i64 k∧k≤n∧SetM wo 65 mb k (seen16 (P.take k))∧Ext w wo) (fun s _=>n - (intOf s).toNat)
 case atStart=>exact ⟨0,_,rfl,rfl,by omega,HM1.out,HX1.out⟩
 case round =>
  clear HM1 HX1
  obtain ⟨k,wo,rfl,rfl,hk,hm,hx⟩:=hrel
  rename World=>wl
  have HM:=Lib.hid hm
  have HXL:=Lib.hid hx
  clear hm hx
  by_cases hlt:k < n
  ·have dlt:decide ((k:Int) < (n:Int))=true:=by simp; omega
   have hup:IntKind.i64.wrap ((k:Int)+1)=((k+1:Nat):Int):=by rw [IntKind.wrap_i64]; omega
   obtain ⟨pb,po,rfl,hpb,hpc,hpc2,hp4⟩:=HPF.out (by omega)
   obtain ⟨p,hp⟩:∃ p,P.getD k default=p:=⟨_,rfl⟩
   have hkl:k < P.length:=by rw [HNN.out]; exact hlt
   have hpm:p ∈ P:=by rw [← hp,List.getD_eq_getElem?_getD,List.getElem?_eq_getElem hkl]; exact List.getElem_mem hkl
   have RS:=Lib.hid (show wl.rangeAt pb (po+k*5) p.L from by
    have h4:=rangeR_ext (hp4 k hlt) HXL.out hpb
    rw [hp] at h4
    exact h4)
   have hpr:=HR.out.1 p hpm
   have HTK:=Lib.hid (show seen16 (P.take (k+1))=seen16 (P.take k) ++ [.int .u16 (p.pid % 4096)] from by
    unfold seen16
    rw [take_snoc P default hkl,hp,List.map_append]
    rfl)
   have HNS:=Lib.hid (show Lit.int .u16 (p.pid % 4096) ∉ seen16 (P.take k) from fun h=>by
    unfold seen16 at h
    obtain ⟨q,hq,e⟩:=List.mem_map.1 h
    simp only [Lit.int.injEq,true_and] at e
    obtain ⟨j,hj,rfl⟩:=List.getElem_of_mem hq
    rw [List.length_take] at hj
    rw [List.getElem_take] at e
    have hnd:=HR.out.2
    have h5:=(List.nodup_iff_pairwise_ne.1 hnd)
    rw [List.pairwise_iff_getElem] at h5
    have h6:=h5 j k (by simp; omega) (by simp; omega) (by omega)
    apply h6
    have hpk:P[k]=p:=by rw [← hp,List.getD_eq_getElem?_getD,List.getElem?_eq_getElem hkl]; rfl
    simp only [List.getElem_map]
    rw [hpk]
    exact e)
   obtain ⟨p1,p2,p3,p4,p5⟩:=p
   have HP:=Lib.hid hpr
   obtain ⟨nm,hnm⟩:∃ x:Int,p1 % 4096=x:=⟨_,rfl⟩
   have h16:0≤p1∧p1 < 65536:=hpr.1.1
   have HNM:=Lib.hid (show keyOf Try.prog 65 (.int .u16 nm)=some (.int .u16 nm) from key16 (by omega))
   have d1:decide (p2 < 1)=false:=by have h8:(1:Int)≤p2:=hpr.2.1; simp; omega
   have d2:decide (p2 > 200000000)=false:=by have h8:p2≤200000000:=hpr.2.2; simp; omega
   have d3:decide (200000000 < p2)=false:=by have h8:p2≤200000000:=hpr.2.2; simp; omega
   have H16:=Lib.hid h16
   have HNE:=Lib.hid hnm
   have hnm2:seen16 (P.take k) ++ [.int .u16 (p1 % 4096)]=seen16 (P.take k) ++ [.int .u16 nm]:=by rw [hnm]
   have hnm3:Lit.int .u16 (p1 % 4096)=Lit.int .u16 nm:=by rw [hnm]
   have HTK2:=Lib.hid (HTK.out.trans hnm2)
   have HNS2:=Lib.hid (show Lit.int .u16 nm ∉ seen16 (P.take k) from by rw [← hnm3]; exact HNS.out)
   clear hp4 hp hpb hpr hpm hkl h16 hnm hnm2 hnm3 HTK HNS hpc hpc2
   go_wp2_with (first
    | fail
    | ((with_reducible refine at_load 87 ?_); refine wpList_load_mid rfl 87 _ rfl pb (po+k*5) rfl [.int .u16 p1,.int .u32 p2,.bool p3,.bool p4,.bool p5] _ RS.out Try.underlying87 rfl size_bt ?_)
    | ((with_reducible refine at_alloc 87 ?_); refine al_zero rfl 87 rfl SUZ zero_bt ?_
       intro H wh hqh hszh hxh)
    | ((with_reducible refine at_store 87 ?_); refine st_at rfl rfl 87 _ _ rfl H 0 _ #[.int .u16 p1,.int .u32 p2,.bool p3,.bool p4,.bool p5] SUZ #[.int .u16 p1,.int .u32 p2,.bool p3,.bool p4,.bool p5] 87 rfl rfl rfl hqh (by exact (by decide:0+5≤5)) (by kernel_rfl) rfl rfl ?_
       intro wk hqk hmk
       have E5:Ext wl wk:=hxh.mutE hmk (fun g hg h=>by have h2:g=H:=h; omega)
       have h0:wk.cell? ⟨H,0,none⟩=some (.int .u16 p1):=by rw [cell_row hqk]; rfl
       have h1:wk.cell? ⟨H,1,none⟩=some (.int .u32 p2):=by rw [cell_row hqk]; rfl
       have HMK:=Lib.hid (HM.out.ext E5)
       have HXK:=Lib.hid (HXL.out.trans E5)
       clear hqh hszh hxh hqk hmk E5 wh))
   refine (num_any p1 wk H16.out.1 H16.out.2).mono ?_
   rintro e w6 ⟨rfl,hw6⟩
   rw [← hw6,HNE.out]
   clear hw6
   have hlk:=HMK.out.look kp16 Try.underlying158 HNM.out HNS2.out
   go_wp2_with (first
    | fail
    | simp only [hlk]
    | (at_mapUpdate; refine wpList_setU rfl _ _ _ rfl kp16 Try.underlying158 mb (.int .u16 nm) (.int .u16 nm) rfl rfl rfl HMK.out (by unfold maxLen; omega) HNM.out ?_
       intro w9 hs9 hg9
       have HM9:=Lib.hid (show SetM w9 65 mb (k+1) (seen16 (P.take (k+1))) from by rw [HTK2.out]; exact hs9)
       have HX9:=Lib.hid (HXK.out.mutE (grown_mut hg9) (fun g h1 h=>by have h2:mb=g:=(by simpa using h); have h3:=HMW.out; omega))
       clear hs9 hg9))
   go_roundw
   case rel=>exact ⟨k+1,_,rfl,by go_num,hlt,HM9.out,HX9.out⟩
   case measure=>simp [intOf] <;> omega
  ·have dlt:decide ((k:Int) < (n:Int))=false:=by simp; omega
   obtain rfl:n=k:=by omega
   go_wp2_with fail
   go_ret
   exact ⟨rfl,HXL.out⟩
end Go.Proofs.Ytamnmjckhicapaa
namespace Go.Proofs.Ytamnmjckhicapaa
open Go.RowKit Go.BigFrame Go.WideShapes Go.ChangeShapes Go.Deep
set_option linter.unusedVariables false
set_option linter.unusedSimpArgs false
set_option maxRecDepth 100000
def NetR (N:List Nd):Prop:=(∀ x ∈ N,(0≤x.id∧x.id < 18446744073709551616)∧x.ports.length≤32∧PortsR x.ports)∧(N.map (fun x=>x.id % 281474976710656)).Nodup
def seen64 (N:List Nd):List Lit:=N.map (fun x=>.int .u64 (x.id % 281474976710656))
theorem seen64_new {N:List Nd} {k:Nat} (h:(N.map (fun x=>x.id % 281474976710656)).Nodup) (hk:k < N.length):Lit.int .u64 ((N.getD k default).id % 281474976710656) ∉ seen64 (N.take k):=fun hm=>by
 unfold seen64 at hm
 obtain ⟨q,hq,e⟩:=List.mem_map.1 hm
 simp only [Lit.int.injEq,true_and] at e
 obtain ⟨j,hj,rfl⟩:=List.getElem_of_mem hq
 rw [List.length_take] at hj
 rw [List.getElem_take] at e
 have h5:=List.nodup_iff_pairwise_ne.1 h
 rw [List.pairwise_iff_getElem] at h5
 have h6:=h5 j k (by simp; omega) (by simp; omega) (by omega)
 apply h6
 simp only [List.getElem_map]
 rw [List.getD_eq_getElem?_getD,List.getElem?_eq_getElem hk] at e
 exact e
set_option maxRecDepth 100000 in
set_option maxHeartbeats 8000000 in
theorem rnodes_any (hold:Int) (nv sv:Value) (N:List Nd) (w:World) (hN:NodesAt w nv N) (hr:NetR N) (ho:hold=6∨hold=0) (h1:1≤N.length) (hs1:sv.oneCell'=true):Calls Try.prog 32 #[.agg #[.int .i64 0,.int .i64 20,.int .i64 2,.int .i64 15,.int .i64 hold,.int .i64 20,.int .i64 300,nv,sv]] w fun e w'=>e=.returned (.bool (decide (hold=6)))∧Ext w w':=by
 obtain ⟨pv,⟨na,ncap,rfl,hnm,hnf⟩,hpt⟩:=hN
 obtain ⟨n,hn⟩:∃ m,N.length=m:=⟨_,rfl⟩
 rw [hn] at hnm hnf hpt h1 ⊢
 have HNF:=Lib.hid hnf
 have HPT:=Lib.hid hpt
 have HNN:=Lib.hid hn
 have HR:=Lib.hid hr
 have HHO:=Lib.hid ho
 clear hnf hpt hn hr ho
 go_enter Try.func32,Try.ntmps32
 go_wp2_with (first
  | fail
  | ((with_reducible refine at_box 47 ?_); refine bx_row rfl 47 _ rfl #[.int .i64 0,.int .i64 20,.int .i64 2,.int .i64 15,.int .i64 hold,.int .i64 20,.int .i64 300,.slice na n ncap,sv] rfl ?_
     intro X wa hX hsz hx1
     have HXa:=Lib.hid (show BoxAt wa X #[.int .i64 0,.int .i64 20,.int .i64 2,.int .i64 15,.int .i64 hold,.int .i64 20,.int .i64 300,.slice na n ncap,sv] 47 from hX)
     have HEa:=Lib.hid hx1
     clear hX hsz hx1)
  | ((with_reducible refine at_mk 115 ?_); refine wpList_mk rfl 115 rfl rfl ?_
     intro mb w1 hw hs
     have hx:Ext wa w1:=by rw [hw]; exact (Ext.refl _).alloc _
     have HX1:=Lib.hid (HXa.out.ext hx)
     have HE1:=Lib.hid (HEa.out.trans hx)
     have HM1:=Lib.hid (show SetM w1 53 mb 0 [] from by rw [hw,← hs]; exact SetM.made _ _)
     have HMW:=Lib.hid (show w.heap.size≤mb from by have:=HEa.out.size; omega)
     have HMX:=Lib.hid (show X < mb from by have:=heap_lt HXa.out; omega)
     have c7:w1.cell? ⟨X,7,none⟩=some (.slice na n ncap):=HX1.out.cell 7 rfl
     clear hw hs hx HXa HEa))
 go_loopw [13] (fun s wr=>∃ (k:Nat) (wo:World),wo=wr∧s=.int .i64 k∧k≤n∧SetM wo 53 mb k (seen64 (N.take k))∧BoxAt wo X #[.int .i64 0,.int .i64 20,.int .i64 2,.int .i64 15,.int .i64 hold,.int .i64 20,.int .i64 300,.slice na n ncap,sv] 47∧Ext w wo∧(0 < k→hold=6)) (fun s _=>n - (intOf s).toNat)
 case atStart=>exact ⟨0,_,rfl,rfl,by omega,HM1.out,HX1.out,HE1.out,fun h=>by omega⟩
 case round =>
  clear HM1 HX1 HE1 c7
  obtain ⟨k,wo,rfl,rfl,hk,hm,hxr,hx,hk6⟩:=hrel
  rename World=>wl
  have HM:=Lib.hid hm
  have HXR:=Lib.hid hxr
  have HXL:=Lib.hid hx
  have HK6:=Lib.hid hk6
  clear hm hx hxr hk6
  by_cases hlt:k < n
  ·have dlt:decide ((k:Int) < (n:Int))=true:=by simp; omega
   have hup:IntKind.i64.wrap ((k:Int)+1)=((k+1:Nat):Int):=by rw [IntKind.wrap_i64]; omega
   obtain ⟨nb,no,rfl,hnb,-,-,hn4⟩:=HNF.out (by omega)
   have hkl:k < N.length:=by rw [HNN.out]; exact hlt
   obtain ⟨x,hx⟩:∃ x,N.getD k default=x:=⟨_,rfl⟩
   have hxm:x ∈ N:=by rw [← hx,List.getD_eq_getElem?_getD,List.getElem?_eq_getElem hkl]; exact List.getElem_mem hkl
   have hr4:=rangeR_ext (hn4 k hlt) HXL.out hnb
   rw [hx] at hr4
   have hpts:=HPT.out k hlt
   rw [hx] at hpts
   obtain ⟨pa,pcap,hpe,hpm,hpf⟩:=id hpts
   rw [hpe] at hr4
   obtain ⟨pn,hpn⟩:∃ m,x.ports.length=m:=⟨_,rfl⟩
   obtain ⟨hxid,hx32,hxp⟩:=HR.out.1 x hxm
   have hnew:=seen64_new HR.out.2 hkl
   have htk:seen64 (N.take (k+1))=seen64 (N.take k) ++ [.int .u64 (x.id % 281474976710656)]:=by
    unfold seen64
    rw [take_snoc N default hkl,hx,List.map_append]
    rfl
   rw [hx] at hnew
   have HPV:=Lib.hid (show PtsAt w (.slice pa pn pcap) x.ports from by rw [← hpn,← hpe]; exact hpts)
   rw [hpn] at hr4 hx32
   obtain ⟨P,hP⟩:∃ P,x.ports=P:=⟨_,rfl⟩
   rw [hP] at HPV hxp hpn
   obtain ⟨id,hid⟩:∃ i,x.id=i:=⟨_,rfl⟩
   obtain ⟨rst,hrst⟩:∃ i,x.rst=i:=⟨_,rfl⟩
   rw [hid] at hxid hnew htk
   rw [hid,hrst] at hr4
   obtain ⟨ad,had⟩:∃ a:Int,id % 281474976710656=a:=⟨_,rfl⟩
   rw [had] at hnew htk
   have HAD:=Lib.hid had
   have HRG:=Lib.hid (show wl.rangeAt nb (no+k*3) [.int .u64 id,.bool rst,.slice pa pn pcap] from hr4)
   have HID:=Lib.hid hxid
   have HPP:=Lib.hid hxp
   have HPN:=Lib.hid hpn
   have HNW:=Lib.hid hnew
   have HTK:=Lib.hid htk
   have HP32:=Lib.hid hx32
   have HKEY:=Lib.hid (show keyOf Try.prog 53 (.int .u64 ad)=some (.int .u64 ad) from key64 (by omega))
   have c7:wl.cell? ⟨X,7,none⟩=some (.slice (some ⟨nb,no,none⟩) n ncap):=HXR.out.cell 7 rfl
   clear hn4 hr4 hpts hpe hpm hpf hx hxm hpn hxid hx32 hxp hnew htk hid hrst hP had hnb hkl
   go_wp2_with (first
    | fail
    | ((with_reducible refine at_load 82 ?_); refine wpList_load_mid rfl 82 _ rfl nb (no+k*3) rfl [.int .u64 id,.bool rst,.slice pa pn pcap] _ HRG.out Try.underlying82 rfl size_l2 ?_)
    | ((with_reducible refine at_alloc 82 ?_); refine al_zero rfl 82 rfl NDZ2 zero_l2 ?_
       intro H wh hqh hszh hxh)
    | ((with_reducible refine at_store 82 ?_); refine st_at rfl rfl 82 _ _ rfl H 0 _ #[.int .u64 id,.bool rst,.slice pa pn pcap] NDZ2 #[.int .u64 id,.bool rst,.slice pa pn pcap] 82 rfl rfl rfl hqh (by exact (by decide:0+3≤3)) (by kernel_rfl) rfl rfl ?_
       intro wk hqk hmk
       have E5:Ext wl wk:=hxh.mutE hmk (fun g hg h=>by have h2:g=H:=h; omega)
       have HHK:=Lib.hid hqk
       have h0:wk.cell? ⟨H,0,none⟩=some (.int .u64 id):=by rw [cell_row hqk]; rfl
       have h1':wk.cell? ⟨H,1,none⟩=some (.bool rst):=by rw [cell_row hqk]; rfl
       have h2':wk.cell? ⟨H,2,none⟩=some (.slice pa pn pcap):=by rw [cell_row hqk]; rfl
       have HMK:=Lib.hid (HM.out.ext E5)
       have HXK:=Lib.hid (HXR.out.ext E5)
       have HEK:=Lib.hid (HXL.out.trans E5)
       have x4:wk.cell? ⟨X,4,none⟩=some (.int .i64 hold):=HXK.out.cell 4 rfl
       have HTR:=Lib.hid (show wk.rangeAt X 0 [.int .i64 0,.int .i64 20,.int .i64 2,.int .i64 15] from fun j v hv=>by
        rw [cell_row HXK.out]
        have hj:j < 4:=(List.getElem?_eq_some_iff.1 hv).1
        rcases j with _ | _ | _ | _ | j
        ·exact hv
        ·exact hv
        ·exact hv
        ·exact hv
        ·omega)
       clear hqh hszh hxh hqk hmk E5 wh c7))
   refine (addr_any id wk HID.out.1 HID.out.2).mono ?_
   rintro e w6 ⟨rfl,hw6⟩
   rw [← hw6,HAD.out]
   clear hw6
   go_wp2_with (first
    | fail
    | ((with_reducible refine at_load 28 ?_); refine wpList_load_mid rfl 28 _ rfl X 0 rfl [.int .i64 0,.int .i64 20,.int .i64 2,.int .i64 15] _ HTR.out Try.underlying28 rfl size_tm ?_))
   refine (newbr_any id hold rst (.slice pa pn pcap) P wk (RowAt.ext HPV.out HEK.out) (by rw [HPN.out]; exact HP32.out) HID.out (by rcases HHO.out with h | h <;> omega) (fun p hp=>(HPP.out.1 p hp).1)).mono ?_
   rintro e w7 ⟨c,rfl,hcs,hc1,hx7⟩
   have HM7:=Lib.hid (HMK.out.ext hx7)
   have HX7:=Lib.hid (HXK.out.ext hx7)
   have HE7:=Lib.hid (HEK.out.trans hx7)
   have HH7:=Lib.hid ((hx7.block H (heap_lt HHK.out)).trans HHK.out)
   have HC1:=Lib.hid hc1
   have HCS:=Lib.hid hcs
   clear h0 h1' h2' x4 hx7 hcs hc1 HTR HMK HXK HEK HHK
   rcases HHO.out with h6 | h6
   ·have hd:decide (1≤hold∧hold≤10)=true:=by rw [decide_eq_true_eq]; omega
    rw [hd]
    have HH6:=Lib.hid h6
    clear hd h6
    go_upto_region 7 with (first
     | fail
     | ((with_reducible refine at_alloc 120 ?_); refine al_zero rfl 120 rfl BrZ zero_br ?_
        intro V wv hqv hszv hxv)
     | ((with_reducible refine at_store 120 ?_); refine st_at rfl rfl 120 _ _ rfl V 0 _ c BrZ _ 120 rfl rfl rfl hqv (by rw [HCS.out]; exact (by decide:0+20≤20)) (by rw [HCS.out]; exact size_brg) HC1.out rfl ?_
        intro w8 hq8 hm8
        have E8:Ext w7 w8:=hxv.mutE hm8 (fun g hg h=>by have h2:g=V:=h; omega)
        have HM8:=Lib.hid (HM7.out.ext E8)
        have HX8:=Lib.hid (HX7.out.ext E8)
        have HE8:=Lib.hid (HE7.out.trans E8)
        have h2':w8.cell? ⟨H,2,none⟩=some (.slice pa pn pcap):=by rw [cell_row ((E8.block H (heap_lt HH7.out)).trans HH7.out)]; rfl
        clear hqv hszv hxv hq8 hm8 E8 wv))
    have hlk:=HM8.out.look kp64 Try.underlying115 HKEY.out HNW.out
    go_wp2_with (first | fail | simp only [hlk])
    refine (rports_any (.slice pa pn pcap) P w8 (RowAt.ext HPV.out HE8.out) HPP.out).mono ?_
    rintro e w9 ⟨rfl,hx9⟩
    have HM9:=Lib.hid (HM8.out.ext hx9)
    have HX9:=Lib.hid (HX8.out.ext hx9)
    have HE9:=Lib.hid (HE8.out.trans hx9)
    clear hx9 hlk h2'
    go_wp2_with (first
     | fail
     | (at_mapUpdate; refine wpList_setU rfl _ _ _ rfl kp64 Try.underlying115 mb (.int .u64 ad) (.int .u64 ad) rfl rfl rfl HM9.out (by unfold maxLen; omega) HKEY.out ?_
        intro wz hsz hgz
        have hgm:=grown_mut hgz
        have HMZ:=Lib.hid (show SetM wz 53 mb (k+1) (seen64 (N.take (k+1))) from by rw [HTK.out]; exact hsz)
        have HXZ:=Lib.hid (HX9.out.mut hgm (fun h=>by have h2:mb=X:=(by simpa using h); have h3:=HMX.out; omega))
        have HEZ:=Lib.hid (HE9.out.mutE hgm (fun g h1 h=>by have h2:mb=g:=(by simpa using h); have h3:=HMW.out; omega))
        clear hsz hgz hgm))
    go_roundw
    case rel=>exact ⟨k+1,_,rfl,by go_num,hlt,HMZ.out,HXZ.out,HEZ.out,fun _=>HH6.out⟩
    case measure=>simp [intOf] <;> omega
   ·have hd:decide (1≤hold∧hold≤10)=false:=by rw [decide_eq_false_iff_not]; omega
    have hd2:decide (hold=6)=false:=by rw [decide_eq_false_iff_not]; omega
    rw [hd]
    have HD2:=Lib.hid hd2
    clear hd h6 hd2
    go_wp2_with (first
     | fail
     | ((with_reducible refine at_alloc 120 ?_); refine al_zero rfl 120 rfl BrZ zero_br ?_
        intro V wv hqv hszv hxv)
     | ((with_reducible refine at_store 120 ?_); refine st_at rfl rfl 120 _ _ rfl V 0 _ c BrZ _ 120 rfl rfl rfl hqv (by rw [HCS.out]; exact (by decide:0+20≤20)) (by rw [HCS.out]; exact size_brg) HC1.out rfl ?_
        intro w8 hq8 hm8
        have E8:Ext w7 w8:=hxv.mutE hm8 (fun g hg h=>by have h2:g=V:=h; omega)
        have HE8:=Lib.hid (HE7.out.trans E8)
        clear hqv hszv hxv hq8 hm8 E8 wv))
    go_ret
    exact ⟨by rw [HD2.out]; rfl,HE8.out⟩
  ·have dlt:decide ((k:Int) < (n:Int))=false:=by simp; omega
   obtain rfl:n=k:=by omega
   have c7:wl.cell? ⟨X,7,none⟩=some (.slice na n ncap):=HXR.out.cell 7 rfl
   have hd:decide (hold=6)=true:=by rw [decide_eq_true_eq]; exact HK6.out (by omega)
   have HD:=Lib.hid hd
   clear hd
   go_wp2_with fail
   go_ret
   exact ⟨by rw [HD.out]; rfl,HXL.out⟩
end Go.Proofs.Ytamnmjckhicapaa
namespace Go.Proofs.Ytamnmjckhicapaa
open Go.RowKit Go.BigFrame Go.WideShapes Go.ChangeShapes Go.Deep
set_option linter.unusedVariables false
set_option linter.unusedSimpArgs false
set_option maxRecDepth 100000
set_option maxRecDepth 100000 in
set_option maxHeartbeats 4000000 in
theorem fnew_any (w:World):Calls Try.prog 31 #[.int .i64 20,.int .i64 300] w fun e w'=>∃ b,e=.returned (.pointer (some ⟨b,0,none⟩))∧Ext w w':=by
 go_enter Try.func31,Try.ntmps31
 go_wp2_with (first
  | fail
  | ((with_reducible refine at_mk 112 ?_); refine wpList_mk rfl 112 rfl rfl ?_
     intro mb w1 hw hs
     have hx:Ext w w1:=by rw [hw]; exact (Ext.refl _).alloc _
     clear hw hs)
  | ((with_reducible refine at_build 114 ?_); refine wpList_build2 rfl 114 _ rfl [(0,.map (some mb)),(1,.int .i64 20),(2,.int .i64 300)] rfl #[.map (some mb),.int .i64 20,.int .i64 300] (by kernel_rfl) ?_)
  | ((with_reducible refine at_box 114 ?_); refine bx_row rfl 114 _ rfl #[.map (some mb),.int .i64 20,.int .i64 300] rfl ?_
     intro X wa hX hsz hx1
     have HXX:=Lib.hid (hx.trans hx1)
     clear hX hsz hx1))
 go_ret
 exact ⟨X,rfl,HXX.out⟩
set_option maxRecDepth 100000 in
set_option maxHeartbeats 4000000 in
theorem has_any (hold:Int) (nb no n ncap:Nat) (sv:Value) (N:List Nd) (p:Pl) (w:World) (hN:NodesAt w (.slice (some ⟨nb,no,none⟩) n ncap) N) (hn:N.length=n) (hp:PlOk N p) :
    Calls Try.prog 51 #[.agg #[.int .i64 0,.int .i64 20,.int .i64 2,.int .i64 15,.int .i64 hold,.int .i64 20,.int .i64 300,.slice (some ⟨nb,no,none⟩) n ncap,sv],.agg #[.int .i64 p.1,.int .i64 p.2]] w fun e w'=>e=.returned (.bool true)∧Ext w w':=by
 obtain ⟨pv,⟨na,nc,hne,hnm,hnf⟩,hpt⟩:=hN
 rw [hn] at hne hnm hnf hpt
 obtain ⟨a1,a2,a3,a4⟩:=hp
 rw [hn] at a2
 obtain ⟨p1,p2⟩:=p
 obtain ⟨a,rfl⟩:∃ a:Nat,p1=a:=⟨p1.toNat,by simp at a1; omega⟩
 obtain ⟨b,rfl⟩:∃ b:Nat,p2=b:=⟨p2.toNat,by simp at a3; omega⟩
 simp only [Int.toNat_natCast] at a1 a2 a3 a4
 obtain ⟨nb',no',rfl,hnb,hnc,hnc2,hn4⟩:=hnf (by omega)
 simp only [Value.slice.injEq,Option.some.injEq,Addr.mk.injEq] at hne
 obtain ⟨⟨rfl,rfl,-⟩,-,rfl⟩:=hne
 have han:a < n:=by omega
 have hr:w.rangeAt nb (no+a*3) [.int .u64 (N.getD a default).id,.bool (N.getD a default).rst,pv a]:=hn4 a han
 have hpts:=hpt a han
 obtain ⟨x,hx⟩:∃ x,N.getD a default=x:=⟨_,rfl⟩
 rw [hx] at hr hpts a4
 obtain ⟨pa,pcap,hpe,hpm,hpf⟩:=hpts
 obtain ⟨pn,hpn⟩:∃ m,x.ports.length=m:=⟨_,rfl⟩
 rw [hpn] at hpe hpm hpf a4
 rw [hpe] at hr
 have hc2:=range_one hr (j:=2) rfl
 have HC:=Lib.hid hc2
 have HNB:=Lib.hid hnb
 have dab:decide ((a:Int) < (n:Int))=true:=by simp; omega
 have dbp:decide ((b:Int) < (pn:Int))=true:=by simp; omega
 have da0:decide ((a:Int) ≥ 0)=true:=by simp
 have db0:decide ((b:Int) ≥ 0)=true:=by simp
 clear hr hpt hpf hpe hn4 hnf hc2 hx hnb
 go_enter Try.func51,Try.ntmps51
 go_wp2_with (first
  | fail
  | ((with_reducible refine at_box 47 ?_); refine bx_row rfl 47 _ rfl #[.int .i64 0,.int .i64 20,.int .i64 2,.int .i64 15,.int .i64 hold,.int .i64 20,.int .i64 300,.slice (some ⟨nb,no,none⟩) n ncap,sv] rfl ?_
     intro X wa hX hsz hx1
     have HXa:=Lib.hid (show BoxAt wa X #[.int .i64 0,.int .i64 20,.int .i64 2,.int .i64 15,.int .i64 hold,.int .i64 20,.int .i64 300,.slice (some ⟨nb,no,none⟩) n ncap,sv] 47 from hX)
     have HEa:=Lib.hid hx1
     clear hX hsz hx1)
  | ((with_reducible refine at_box 58 ?_); refine bx_row rfl 58 _ rfl #[.int .i64 (a:Int),.int .i64 (b:Int)] rfl ?_
     intro G wb hG hsz hx1
     have g0:wb.cell? ⟨G,0,none⟩=some (.int .i64 (a:Int)):=by rw [cell_row hG]; rfl
     have g1:wb.cell? ⟨G,1,none⟩=some (.int .i64 (b:Int)):=by rw [cell_row hG]; rfl
     have x7:wb.cell? ⟨X,7,none⟩=some (.slice (some ⟨nb,no,none⟩) n ncap):=(HXa.out.ext hx1).cell 7 rfl
     have HEb:=Lib.hid (HEa.out.trans hx1)
     have cp:wb.cell? ⟨nb,no+a*3+2,none⟩=some (.slice pa pn pcap):=(HEb.out.cell HNB.out).trans HC.out
     have HGG:=Lib.hid hG
     have HXG:=Lib.hid (HXa.out.ext hx1)
     clear hG hsz hx1))
 refine beginL (S:=fun W'=>Ext wb W') (by kernel_rfl) ?_
 intro wd hqx
 have hq0:Ext wb wd:=hqx
 refine tLp 0 ((.pointer (some ⟨G,0,none⟩))) rfl hq0 ?_
 simp only [ps]
 refine tL 1 (_) rfl (yieldsIf_cell rfl 3 _ rfl ⟨G,0,none⟩ rfl (.int .i64 (a:Int)) _ (fun W' hW'=>(hW'.cell (p:=⟨G,0,none⟩) (heap_lt HGG.out)).trans g0) Try.underlying3 rfl) hq0 ?_
 simp only [ps]
 refine tL 2 ((.bool true)) rfl (Or.inl ⟨rfl,fun W' _=>by go_simp⟩) hq0 ?_
 simp only [ps]
 refine tLp 3 ((.bool true)) rfl hq0 ?_
 simp only [ps]
 refine tLp 4 ((.pointer (some ⟨G,0,none⟩))) rfl hq0 ?_
 simp only [ps]
 refine tL 5 (_) rfl (yieldsIf_cell rfl 3 _ rfl ⟨G,0,none⟩ rfl (.int .i64 (a:Int)) _ (fun W' hW'=>(hW'.cell (p:=⟨G,0,none⟩) (heap_lt HGG.out)).trans g0) Try.underlying3 rfl) hq0 ?_
 simp only [ps]
 refine tLp 6 ((.pointer (some ⟨X,7,none⟩))) rfl hq0 ?_
 simp only [ps]
 refine tL 7 (_) rfl (yieldsIf_cell rfl 44 _ rfl ⟨X,7,none⟩ rfl (.slice (some ⟨nb,no,none⟩) n ncap) _ (fun W' hW'=>(HXG.out.ext hW').cell 7 rfl) Try.underlying44 rfl) hq0 ?_
 simp only [ps]
 refine tL 8 ((.int .i64 (n:Int))) rfl (Or.inl ⟨rfl,fun W' _=>by go_simp⟩) hq0 ?_
 simp only [ps]
 refine tL 9 ((.bool true)) rfl (Or.inl ⟨rfl,fun W' _=>by go_simp⟩) hq0 ?_
 simp only [ps]
 refine tLp 10 ((.bool true)) rfl hq0 ?_
 simp only [ps]
 refine tLp 11 ((.bool true)) rfl hq0 ?_
 simp only [ps]
 refine tLp 12 ((.pointer (some ⟨G,1,none⟩))) rfl hq0 ?_
 simp only [ps]
 refine tL 13 (_) rfl (yieldsIf_cell rfl 3 _ rfl ⟨G,1,none⟩ rfl (.int .i64 (b:Int)) _ (fun W' hW'=>(hW'.cell (p:=⟨G,1,none⟩) (heap_lt HGG.out)).trans g1) Try.underlying3 rfl) hq0 ?_
 simp only [ps]
 refine tL 14 ((.bool true)) rfl (Or.inl ⟨rfl,fun W' _=>by go_simp⟩) hq0 ?_
 simp only [ps]
 refine tLp 15 ((.bool true)) rfl hq0 ?_
 simp only [ps]
 refine tLp 16 ((.bool true)) rfl hq0 ?_
 simp only [ps]
 refine tLp 17 ((.pointer (some ⟨G,1,none⟩))) rfl hq0 ?_
 simp only [ps]
 refine tL 18 (_) rfl (yieldsIf_cell rfl 3 _ rfl ⟨G,1,none⟩ rfl (.int .i64 (b:Int)) _ (fun W' hW'=>(hW'.cell (p:=⟨G,1,none⟩) (heap_lt HGG.out)).trans g1) Try.underlying3 rfl) hq0 ?_
 simp only [ps]
 refine tLp 19 ((.pointer (some ⟨X,7,none⟩))) rfl hq0 ?_
 simp only [ps]
 refine tL 20 (_) rfl (yieldsIf_cell rfl 44 _ rfl ⟨X,7,none⟩ rfl (.slice (some ⟨nb,no,none⟩) n ncap) _ (fun W' hW'=>(HXG.out.ext hW').cell 7 rfl) Try.underlying44 rfl) hq0 ?_
 simp only [ps]
 refine tLp 21 ((.pointer (some ⟨G,0,none⟩))) rfl hq0 ?_
 simp only [ps]
 refine tL 22 (_) rfl (yieldsIf_cell rfl 3 _ rfl ⟨G,0,none⟩ rfl (.int .i64 (a:Int)) _ (fun W' hW'=>(hW'.cell (p:=⟨G,0,none⟩) (heap_lt HGG.out)).trans g0) Try.underlying3 rfl) hq0 ?_
 simp only [ps]
 refine tL 23 ((.pointer (some ⟨nb,no+a*3,none⟩))) rfl (Or.inl ⟨rfl,fun W' _=>by go_simp <;> (intro h; omega)⟩) hq0 ?_
 simp only [ps]
 refine tLp 24 ((.pointer (some ⟨nb,no+a*3+2,none⟩))) rfl hq0 ?_
 simp only [ps]
 refine tL 25 (_) rfl (yieldsIf_cell rfl 80 _ rfl ⟨nb,no+a*3+2,none⟩ rfl (.slice pa pn pcap) _ (fun W' hW'=>((HEb.out.trans hW').cell HNB.out).trans HC.out) Try.underlying80 rfl) hq0 ?_
 simp only [ps]
 refine tL 26 ((.int .i64 (pn:Int))) rfl (Or.inl ⟨rfl,fun W' _=>by go_simp⟩) hq0 ?_
 simp only [ps]
 refine tL 27 ((.bool true)) rfl (Or.inl ⟨rfl,fun W' _=>by go_simp⟩) hq0 ?_
 simp only [ps]
 refine tLp 28 ((.bool true)) rfl hq0 ?_
 simp only [ps]
 refine tLp 29 ((.bool true)) rfl hq0 ?_
 simp only [ps]
 refine wpAnyH_done (by kernel_rfl) ?_ _
 go_wp2_with fail
 go_ret
 exact ⟨rfl,HEb.out.trans hqx⟩
end Go.Proofs.Ytamnmjckhicapaa
namespace Go.Proofs.Ytamnmjckhicapaa
open Go.RowKit Go.BigFrame Go.WideShapes Go.ChangeShapes Go.Deep
set_option linter.unusedVariables false
set_option linter.unusedSimpArgs false
set_option maxRecDepth 100000
theorem run_append_none2 {P:Program} {w:World} (base:Nat) (t ty e:TypeId) (i:TypeInfo) (size:Nat) (ht:P.underlying t=some (.slice e)) (hi:P.info? e=some i)
    (v:Value) (n:Nat) (xs:List Value) (hown:w.ownsRow base e size v n xs) (q:Nat) :
    (Builtin.append_ #[t,t] ty #[v,.slice none 0 q]).run P w=.ok v w:=by
 rcases hown.2 with ⟨rfl,rfl⟩ | ⟨g,cap,cur,rfl,_,_,hnc,_⟩
 ·simp [Builtin.append_,run_underlying ht,sizeOf,typeInfo,hi,Builtin.lenOf,Builtin.firstCells]
 ·simp [Builtin.append_,run_underlying ht,sizeOf,typeInfo,hi,Builtin.lenOf,Builtin.firstCells,hnc,storeCells]
set_option maxRecDepth 100000 in
set_option maxHeartbeats 4000000 in
theorem grow_any (m:Nat) (hm:m≤10000) (w:World):Calls Try.prog 71 #[.slice none 0 0,.int .i64 m] w fun e w'=>∃ v,e=.returned v∧w'.ownsRow w.heap.size 58 2 v 0 []∧Ext w w':=by
 obtain ⟨i2,hi2,hz2,hs2,hb2⟩:=info_parts info_pl
 have hneg:decide ((m:Int) < 0)=false:=by simp
 go_enter Try.func71,Try.ntmps71
 by_cases h0:m=0
 ·subst h0
  go_wp2_with fail
  go_ret
  exact ⟨_,rfl,⟨by simp,.inl ⟨rfl,rfl⟩⟩,Ext.refl _⟩
 ·have hpos:decide ((m:Int) > 0)=true:=by simp; omega
  have hpos2:decide ((0:Int) < (m:Int))=true:=by simp; omega
  have hr:=fun ty=>Lib.run_append_nil_zeros (P:=Try.prog) w 39 3 ty 58 i2 (.agg PZ2) .i64 .i64 Try.underlying39 Try.underlying3 hi2 hz2 m (by omega) (by omega) (by omega) (by rw [hb2]; omega)
  have hG1:=grownCap_ge w m 0 58
  have hG2:=grownCap_le_maxLen w m 0 58 (by unfold maxLen; omega)
  have hx:Ext w (w.drew.alloc (.cells (Builtin.zeroCells (Value.agg PZ2).cells m ++ Builtin.zeroCells (Value.agg PZ2).cells (grownCap w m 0 58 - m)) 58)):=((Ext.refl w).drew).alloc _
  have hn:(w.drew.alloc (.cells (Builtin.zeroCells (Value.agg PZ2).cells m ++ Builtin.zeroCells (Value.agg PZ2).cells (grownCap w m 0 58 - m)) 58)).heap[w.heap.size]?=some (.cells (Builtin.zeroCells (Value.agg PZ2).cells m ++ Builtin.zeroCells (Value.agg PZ2).cells (grownCap w m 0 58 - m)) 58 (0,0)):=heap_alloc_new w.drew _
  obtain ⟨w2,hw2⟩:∃ w2,w.drew.alloc (.cells (Builtin.zeroCells (Value.agg PZ2).cells m ++ Builtin.zeroCells (Value.agg PZ2).cells (grownCap w m 0 58 - m)) 58)=w2:=⟨_,rfl⟩
  rw [hw2] at hx hn
  simp only [hw2] at hr
  obtain ⟨G,hG⟩:∃ G,grownCap w m 0 58=G:=⟨_,rfl⟩
  simp only [hG] at hr hG1 hG2 hn
  have HX:=Lib.hid hx
  have HN:=Lib.hid hn
  have HR:=Lib.hid hr
  have HG2:=Lib.hid hG2
  have hG3:G≤9223372036854775807:=by unfold maxLen at hG2; omega
  clear hx hn hr hw2 hG hG2
  go_wp2_with (at_builtin; refine Lib.wpList_append_run _ rfl _ _ _ _ rfl _ _ rfl rfl _ _ (HR.out _) ?_)
  go_ret
  refine ⟨_,rfl,⟨by simp,.inr ⟨w.heap.size,G,_,rfl,Nat.le_refl _,HN.out,Nat.zero_le _,HG2.out,?_,by simp⟩⟩,HX.out⟩
  rw [Array.size_append,size_zeroCells,size_zeroCells]
  show m*2+(G - m)*2=G*2
  omega
set_option maxRecDepth 100000 in
set_option maxHeartbeats 4000000 in
theorem concat_any (sv:Value) (S:List (List Pl)) (w:World) (hS:SegsAt w sv S) (hfl:S.flatten.length≤1000) (h20:S.length≤20) (h60:∀ j,j < S.length→(S.getD j []).length≤60):Calls Try.prog 50 #[sv] w fun e w'=>∃ v,e=.returned v∧PlAt w' v S.flatten∧Ext w w':=by
 obtain ⟨sg,⟨sa,scap,rfl,hsm,hsf⟩,hpl⟩:=hS
 obtain ⟨m,hm⟩:∃ m,S.length=m:=⟨_,rfl⟩
 rw [hm] at hsm hsf hpl h20 h60 ⊢
 have HFF:=Lib.hid hfl
 clear hfl
 obtain ⟨i2,hi2,hz2,hs2,hb2⟩:=info_parts info_pl
 have I2:=Lib.hid (And.intro hi2 (And.intro hz2 (And.intro hs2 hb2)))
 have HSF:=Lib.hid hsf
 have HPL:=Lib.hid hpl
 have HM:=Lib.hid hm
 have H60:=Lib.hid h60
 have HFL:=Lib.hid (show ∀ k,k≤m→(S.take k).flatten.length≤60*k from fun k=>by
  induction k with
  | zero=>intro _; simp
  | succ k ih =>
   intro hk
   rw [take_snoc S [] (by omega),List.flatten_append,List.length_append]
   have h1:=ih (by omega)
   have h2:=h60 k (by omega)
   have e:([S.getD k []]:List (List Pl)).flatten=S.getD k []:=by simp
   rw [e]
   omega)
 clear hi2 hz2 hs2 hb2 hsf hpl hm h60 hsm
 go_enter Try.func50,Try.ntmps50
 go_wp2_with fail
 go_loopw [3,11] (fun p q wr=>∃ (k t0:Nat) (wo:World),wo=wr∧q=.int .i64 k∧k≤m∧p=.int .i64 t0∧(S.take k).flatten.length=t0∧Ext w wo) (fun _ q _=>m - (intOf q).toNat)
 case atStart=>exact ⟨0,0,_,rfl,rfl,by omega,rfl,by simp,Ext.refl _⟩
 case round =>
  obtain ⟨k,t0,wo,rfl,rfl,hk,rfl,ht0,hx⟩:=hrel
  rename World=>wl
  have HXL:=Lib.hid hx
  have HT0:=Lib.hid ht0
  clear hx ht0
  by_cases hlt:k < m
  ·have dlt:decide ((k:Int) < (m:Int))=true:=by simp; omega
   have hup:IntKind.i64.wrap ((k:Int)+1)=((k+1:Nat):Int):=by rw [IntKind.wrap_i64]; omega
   obtain ⟨sb,so,rfl,hsb,hsc,hsc2,hs4⟩:=HSF.out (by omega)
   have hr:=hs4 k hlt
   rw [Nat.mul_one] at hr
   have hpk:=HPL.out k hlt
   obtain ⟨qa,qcap,hqe,hqm,hqf⟩:=hpk
   have ck0:=range_one hr (j:=0) rfl
   rw [Nat.add_zero,hqe] at ck0
   have ck:wl.cell? ⟨sb,so+k,none⟩=some (.slice qa (S.getD k []).length qcap):=(HXL.out.cell hsb).trans ck0
   obtain ⟨ls,hls⟩:∃ ls,(S.getD k []).length=ls:=⟨_,rfl⟩
   rw [hls] at ck hqe
   have h1:=HFL.out k hk
   have h2:=H60.out k hlt
   rw [HT0.out] at h1
   rw [hls] at h2
   have htk:(S.take (k+1)).flatten.length=t0+ls:=by
    have e:([S.getD k []]:List (List Pl)).flatten=S.getD k []:=by simp
    rw [take_snoc S [] (by rw [HM.out]; exact hlt),List.flatten_append,List.length_append,HT0.out,e,hls]
   have HTK:=Lib.hid htk
   have hadd:IntKind.i64.wrap ((t0:Int)+(ls:Int))=((t0+ls:Nat):Int):=by rw [IntKind.wrap_i64]; omega
   have dneg:decide (((t0+ls:Nat):Int) < 0)=false:=by rw [decide_eq_false_iff_not]; omega
   have dneg2:decide ((t0:Int)+(ls:Int) < 0)=false:=by rw [decide_eq_false_iff_not]; omega
   clear hs4 hr hqf htk hls hqe ck0
   go_wp2_with fail
   go_roundw
   case rel=>exact ⟨k+1,t0+ls,_,rfl,by go_num,hlt,by go_num,HTK.out,HXL.out⟩
   case measure=>simp [intOf] <;> omega
  ·have dlt:decide ((k:Int) < (m:Int))=false:=by simp; omega
   obtain rfl:m=k:=by omega
   have h1:=HFL.out m (Nat.le_refl _)
   rw [HT0.out] at h1
   go_wp2_with fail
   refine (grow_any t0 (by omega) _).mono ?_
   rintro e w1 ⟨v0,rfl,how,hx1⟩
   obtain ⟨B,hB⟩:∃ B,wl.heap.size=B:=⟨_,rfl⟩
   rw [hB] at how
   have HB:=Lib.hid hB
   have HOW:=Lib.hid how
   have HX1:=Lib.hid (HXL.out.trans hx1)
   have HBW:=Lib.hid (show w.heap.size≤B from by rw [← hB]; exact HXL.out.size)
   have HBL1:=Lib.hid (show B≤w1.heap.size from by rw [← hB]; exact hx1.size)
   clear how hx1 hB h1
   go_wp2_with fail
   go_loopw [6,27] (fun p q wr=>∃ (k:Nat) (u:Value) (wo:World),wo=wr∧u=p∧q=.int .i64 k∧k≤m∧wo.ownsRow B 58 2 u (S.take k).flatten.length (flatP (S.take k).flatten)∧Ext w wo∧B≤wo.heap.size) (fun _ q _=>m - (intOf q).toNat)
   case atStart=>exact ⟨0,_,_,rfl,rfl,rfl,by omega,by simpa [flatP] using HOW.out,HX1.out,HBL1.out⟩
   case round =>
    clear HOW HX1 HBL1 HXL HT0
    obtain ⟨k,u,wo,rfl,rfl,rfl,hk,hown,hx,hbl⟩:=hrel
    rename World=>wl
    have HO:=Lib.hid hown
    have HXL:=Lib.hid hx
    have HBL:=Lib.hid hbl
    clear hown hx hbl
    by_cases hlt:k < m
    ·have dlt:decide ((k:Int) < (m:Int))=true:=by simp; omega
     have hup:IntKind.i64.wrap ((k:Int)+1)=((k+1:Nat):Int):=by rw [IntKind.wrap_i64]; omega
     obtain ⟨sb,so,rfl,hsb,hsc,hsc2,hs4⟩:=HSF.out (by omega)
     have hr:=hs4 k hlt
     rw [Nat.mul_one] at hr
     obtain ⟨seg,hseg⟩:∃ seg,S.getD k []=seg:=⟨_,rfl⟩
     have hpk:=HPL.out k hlt
     rw [hseg] at hpk
     obtain ⟨qa,qcap,hqe,hqm,hqf⟩:=hpk
     have ck0:=range_one hr (j:=0) rfl
     rw [Nat.add_zero,hqe] at ck0
     obtain ⟨ls,hls⟩:∃ ls,seg.length=ls:=⟨_,rfl⟩
     rw [hls] at ck0 hqf
     have ck:wl.cell? ⟨sb,so+k,none⟩=some (.slice qa ls qcap):=(HXL.out.cell hsb).trans ck0
     have h2:=H60.out k hlt
     rw [hseg,hls] at h2
     have e:([S.getD k []]:List (List Pl)).flatten=seg:=by rw [← hseg]; simp
     have hfl:(S.take (k+1)).flatten=(S.take k).flatten ++ seg:=by
      rw [take_snoc S [] (by rw [HM.out]; exact hlt),List.flatten_append,e]
     have hln:=HFL.out k hk
     obtain ⟨F,hF⟩:∃ F,(S.take k).flatten=F:=⟨_,rfl⟩
     rw [hF] at HO hfl hln
     obtain ⟨fn,hfn⟩:∃ fn,F.length=fn:=⟨_,rfl⟩
     rw [hfn] at HO hln
     obtain ⟨a3,c3,rfl⟩:=own_form2 HO.out
     have HFL2:=Lib.hid hfl
     have HFN:=Lib.hid hfn
     have HLS:=Lib.hid hls
     have HQF:=Lib.hid hqf
     clear hs4 hr hqe hls ck0 hseg e hfl hF hfn hqf
     by_cases hl0:ls=0
     ·subst hl0
      have hs0:seg=[]:=List.length_eq_zero_iff.1 HLS.out
      have HEND:=Lib.hid (show wl.ownsRow B 58 2 (.slice a3 fn c3) (S.take (k+1)).flatten.length (flatP (S.take (k+1)).flatten) from by
       rw [HFL2.out,hs0,List.append_nil,HFN.out]; exact HO.out)
      clear hs0
      cases qa with
      | none =>
       have hrn:=fun ty=>run_append_none2 (w:=wl) B 39 ty 58 i2 2 Try.underlying39 I2.out.1 (.slice a3 fn c3) fn (flatP F) HO.out qcap
       have HRN:=Lib.hid hrn
       clear hrn
       go_wp2_with (first
        | fail
        | (at_builtin; refine Lib.wpList_append_run _ rfl _ _ _ _ rfl _ _ rfl rfl _ _ (HRN.out _) ?_))
       go_roundw
       case rel=>exact ⟨k+1,_,_,rfl,rfl,by go_num,hlt,HEND.out,HXL.out,HBL.out⟩
       case measure=>simp [intOf] <;> omega
      | some q =>
       go_wp2_with (first
        | fail
        | (at_builtin; refine wpList_append_own_at _ rfl _ _ 39 rfl B 58 i2 (.agg PZ2) 2 16 Try.underlying39 I2.out.1 I2.out.2.1 I2.out.2.2.1 I2.out.2.2.2 rfl (by decide) _ fn (flatP F) rfl HO.out q 0 qcap [] rfl rfl (fun j u hu=>by simp at hu) (fun u hu=>by simp at hu) (by unfold maxLen; omega) (by omega) HBL.out ?_
           intro v7 w7 ho7 hg7 _ hb7
           have HX7:=Lib.hid (ext_grown HXL.out HO.out HBW.out hg7)
           have HO7:=Lib.hid (show w7.ownsRow B 58 2 v7 (S.take (k+1)).flatten.length (flatP (S.take (k+1)).flatten) from by
            have h9:=HLS.out
            have hs0:seg=[]:=List.length_eq_zero_iff.1 h9
            rw [HFL2.out,hs0,List.append_nil,HFN.out]
            rw [List.append_nil] at ho7
            exact ho7)
           have HB7:=Lib.hid (Nat.le_trans HBL.out hg7.size)
           clear ho7 hg7 hb7))
       go_roundw
       case rel=>exact ⟨k+1,_,_,rfl,rfl,by go_num,hlt,HO7.out,HX7.out,HB7.out⟩
       case measure=>simp [intOf] <;> omega
     ·obtain ⟨qb,qo,rfl,hqb,-,-,hq4⟩:=HQF.out (by omega)
      have HNEW:=Lib.hid (show ∀ j u,(flatP seg)[j]?=some u→wl.cell? ((⟨qb,qo,none⟩:Addr).add j)=some u from fun j u hu=>by
       have hjl:j < (flatP seg).length:=(List.getElem?_eq_some_iff.1 hu).1
       rw [flatP_len,HLS.out] at hjl
       have h4:=hq4 (j / 2) (by omega)
       have h5:(plL (seg.getD (j / 2) (0,0)))[j % 2]?=some u:=by
        have h6:=flatP_at seg (j / 2) (j % 2) (by rw [HLS.out]; omega) (by omega)
        rw [show j / 2*2+j % 2=j by omega] at h6
        rw [← h6]
        exact hu
       have h7:=h4 (j % 2) u h5
       have h8:qo+j / 2*2+j % 2=qo+j:=by omega
       rw [show (⟨qb,qo,none⟩:Addr).add j=⟨qb,qo+j,none⟩ from by unfold Addr.add; split <;> simp_all,← h8]
       exact (HXL.out.cell (p:=⟨qb,qo+j / 2*2+j % 2,none⟩) hqb).trans h7)
      have HONE:=Lib.hid (show ∀ u ∈ flatP seg,u.oneCell'=true from fun u hu=>by
       unfold flatP at hu
       obtain ⟨p,_,hp⟩:=List.mem_flatMap.1 hu
       unfold plL at hp
       simp only [List.mem_cons,List.not_mem_nil,or_false] at hp
       rcases hp with rfl | rfl <;> rfl)
      go_wp2_with (first
       | fail
       | (at_builtin; refine wpList_append_own_at _ rfl _ _ 39 rfl B 58 i2 (.agg PZ2) 2 16 Try.underlying39 I2.out.1 I2.out.2.1 I2.out.2.2.1 I2.out.2.2.2 rfl (by decide) _ fn (flatP F) rfl HO.out ⟨qb,qo,none⟩ ls qcap (flatP seg) rfl (by rw [flatP_len,HLS.out]) HNEW.out HONE.out (by unfold maxLen; omega) (by omega) HBL.out ?_
          intro v7 w7 ho7 hg7 _ hb7
          have HX7:=Lib.hid (ext_grown HXL.out HO.out HBW.out hg7)
          have HO7:=Lib.hid (show w7.ownsRow B 58 2 v7 (S.take (k+1)).flatten.length (flatP (S.take (k+1)).flatten) from by
           rw [HFL2.out,List.length_append,HFN.out,HLS.out,show flatP (F ++ seg)=flatP F ++ flatP seg from by simp [flatP]]
           exact ho7)
          have HB7:=Lib.hid (Nat.le_trans HBL.out hg7.size)
          clear ho7 hg7 hb7))
      go_roundw
      case rel=>exact ⟨k+1,_,_,rfl,rfl,by go_num,hlt,HO7.out,HX7.out,HB7.out⟩
      case measure=>simp [intOf] <;> omega
    ·have dlt:decide ((k:Int) < (m:Int))=false:=by simp; omega
     obtain rfl:m=k:=by omega
     have htk:S.take m=S:=List.take_of_length_le (by rw [HM.out]; exact Nat.le_refl _)
     have h1:=HFL.out m (Nat.le_refl _)
     rw [htk] at h1 HO
     go_wp2_with fail
     go_ret
     exact ⟨_,rfl,PlAt.own HO.out HFF.out,HXL.out⟩
end Go.Proofs.Ytamnmjckhicapaa
namespace Go.Proofs.Ytamnmjckhicapaa
open Go.RowKit Go.BigFrame Go.WideShapes Go.ChangeShapes Go.Deep
set_option linter.unusedVariables false
set_option linter.unusedSimpArgs false
set_option maxRecDepth 100000
theorem PlOk.rg {N:List Nd} {p:Pl} (h:PlOk N p) (hn:N.length≤1000) (hp:∀ x ∈ N,x.ports.length≤1000):PRg p:=by
 obtain ⟨e1,e2,e3,e4⟩:=h
 have e5:p.1.toNat < N.length:=by omega
 have e6:(N.getD p.1.toNat default).ports.length≤1000:=by
  rw [List.getD_eq_getElem?_getD,List.getElem?_eq_getElem e5]
  exact hp _ (List.getElem_mem e5)
 unfold PRg
 omega
theorem kp_new {L:List Pl} {k:Nat} (hnd:L.Nodup) (hrg:∀ p ∈ L,PRg p) (hk:k < L.length):kp (L.getD k (0,0)) ∉ (L.take k).map kp:=fun hm=>by
 obtain ⟨q,hq,e⟩:=List.mem_map.1 hm
 have hqL:=List.mem_of_mem_take hq
 have hg:L.getD k (0,0)=L[k]:=by rw [List.getD_eq_getElem?_getD,List.getElem?_eq_getElem hk]; rfl
 rw [hg] at e
 have e2:=kp_inj (hrg _ hqL) (hrg _ (List.getElem_mem hk)) e
 obtain ⟨j,hj,rfl⟩:=List.getElem_of_mem hq
 rw [List.length_take] at hj
 rw [List.getElem_take] at e2
 have h5:=List.nodup_iff_pairwise_ne.1 hnd
 rw [List.pairwise_iff_getElem] at h5
 exact h5 j k (by omega) hk (by omega) e2
set_option maxRecDepth 100000 in
set_option maxHeartbeats 4000000 in
theorem rsegs_any (hold:Int) (nb no n ncap:Nat) (sv:Value) (N:List Nd) (S:List (List Pl)) (w:World) (hN:NodesAt w (.slice (some ⟨nb,no,none⟩) n ncap) N) (hn:N.length=n) (hn5:n≤1000) (hp60:∀ x ∈ N,x.ports.length≤1000) (hS:SegsAt w sv S) (hfl:S.flatten.length≤1000) (h20:S.length≤20) (h60:∀ j,j < S.length→(S.getD j []).length≤60)
    (hok:∀ p ∈ S.flatten,PlOk N p) (hnd:S.flatten.Nodup) :
    Calls Try.prog 33 #[.agg #[.int .i64 0,.int .i64 20,.int .i64 2,.int .i64 15,.int .i64 hold,.int .i64 20,.int .i64 300,.slice (some ⟨nb,no,none⟩) n ncap,sv]] w fun e w'=>e=.returned (.bool true)∧Ext w w':=by
 have hrg:∀ p ∈ S.flatten,PRg p:=fun p hp=>(hok p hp).rg (by omega) hp60
 have HN:=Lib.hid hN
 have HS:=Lib.hid hS
 have HOK:=Lib.hid hok
 have HRG:=Lib.hid hrg
 have HND:=Lib.hid hnd
 have HNN:=Lib.hid hn
 have HFL:=Lib.hid hfl
 have H60:=Lib.hid h60
 clear hN hS hok hrg hnd hn hfl h60 hp60
 go_enter Try.func33,Try.ntmps33
 go_wp2_with (first
  | fail
  | ((with_reducible refine at_box 47 ?_); refine bx_row rfl 47 _ rfl #[.int .i64 0,.int .i64 20,.int .i64 2,.int .i64 15,.int .i64 hold,.int .i64 20,.int .i64 300,.slice (some ⟨nb,no,none⟩) n ncap,sv] rfl ?_
     intro X wa hX hsz hx1
     have HXa:=Lib.hid (show BoxAt wa X #[.int .i64 0,.int .i64 20,.int .i64 2,.int .i64 15,.int .i64 hold,.int .i64 20,.int .i64 300,.slice (some ⟨nb,no,none⟩) n ncap,sv] 47 from hX)
     have HEa:=Lib.hid hx1
     clear hX hsz hx1)
  | ((with_reducible refine at_mk 124 ?_); refine wpList_mk rfl 124 rfl rfl ?_
     intro mb w1 hw hs
     have hx:Ext wa w1:=by rw [hw]; exact (Ext.refl _).alloc _
     have HX1:=Lib.hid (HXa.out.ext hx)
     have HE1:=Lib.hid (HEa.out.trans hx)
     have HM1:=Lib.hid (show SetM w1 58 mb 0 [] from by rw [hw,← hs]; exact SetM.made _ _)
     have HMW:=Lib.hid (show w.heap.size≤mb from by have:=HEa.out.size; omega)
     have HMX:=Lib.hid (show X < mb from by have:=heap_lt HXa.out; omega)
     have c8:w1.cell? ⟨X,8,none⟩=some sv:=HX1.out.cell 8 rfl
     clear hw hs hx HXa HEa))
 refine (concat_any sv S w1 (HS.out.ext HE1.out) HFL.out h20 H60.out).mono ?_
 rintro e w2 ⟨v,rfl,hpl,hx2⟩
 obtain ⟨L,hL⟩:∃ L,S.flatten=L:=⟨_,rfl⟩
 rw [hL] at hpl HOK HRG HND HFL
 obtain ⟨pa,pcap,hpe,hpm,hpf⟩:=hpl
 obtain ⟨m,hm⟩:∃ m,L.length=m:=⟨_,rfl⟩
 rw [hm] at hpe hpm hpf HFL
 subst hpe
 have HPF:=Lib.hid (show 0 < m→∃ b off,pa=some ⟨b,off,none⟩∧b < w2.heap.size∧m≤pcap∧pcap≤9223372036854775807∧∀ i,i < m→w2.rangeAt b (off+i*2) (plL (L.getD i (0,0))) from hpf)
 have HM:=Lib.hid hm
 have HM2:=Lib.hid (HM1.out.ext hx2)
 have HX2:=Lib.hid (HX1.out.ext hx2)
 have HE2:=Lib.hid (HE1.out.trans hx2)
 have HMB2:=Lib.hid (show mb < w2.heap.size from (HM1.out.ext hx2).lt)
 have HMAP:=Lib.hid (show ∃ es clock,w2.heap[mb]?=some (.map es clock) from by
  obtain ⟨D,⟨es,clock,hb,_⟩,_⟩:=HM2.out
  exact ⟨es,clock,hb⟩)
 clear hx2 hL hpf hm hpm c8 HM1 HX1
 go_wp2_with fail
 go_loopw [11] (fun s wr=>∃ (k:Nat) (wo:World),wo=wr∧s=.int .i64 k∧k≤m∧SetM wo 58 mb k ((L.take k).map kp)∧BoxAt wo X #[.int .i64 0,.int .i64 20,.int .i64 2,.int .i64 15,.int .i64 hold,.int .i64 20,.int .i64 300,.slice (some ⟨nb,no,none⟩) n ncap,sv] 47∧Mut (fun g=>g=mb) w2 wo) (fun s _=>m - (intOf s).toNat)
 case atStart=>exact ⟨0,_,rfl,rfl,by omega,HM2.out,HX2.out,Mut.refl _ _⟩
 case round =>
  clear HM2 HX2
  obtain ⟨k,wo,rfl,rfl,hk,hm,hxr,hml⟩:=hrel
  rename World=>wl
  have HMS:=Lib.hid hm
  have HXR:=Lib.hid hxr
  have HML:=Lib.hid hml
  have HXL:=Lib.hid (HE2.out.mutE hml (fun g h1 h2=>by have h3:g=mb:=h2; have h4:=HMW.out; omega))
  clear hm hxr hml
  by_cases hlt:k < m
  ·have dlt:decide ((k:Int) < (m:Int))=true:=by simp; omega
   have hup:IntKind.i64.wrap ((k:Int)+1)=((k+1:Nat):Int):=by have:=HFL.out; rw [IntKind.wrap_i64]; omega
   obtain ⟨pb,po,rfl,hpb,-,-,hp4⟩:=HPF.out (by omega)
   obtain ⟨p,hp⟩:∃ p,L.getD k (0,0)=p:=⟨_,rfl⟩
   have hkl:k < L.length:=by rw [HM.out]; exact hlt
   have hpm:p ∈ L:=by rw [← hp,List.getD_eq_getElem?_getD,List.getElem?_eq_getElem hkl]; exact List.getElem_mem hkl
   have hnew:=kp_new HND.out HRG.out hkl
   rw [hp] at hnew
   have HNW:=Lib.hid hnew
   have HPK:=Lib.hid (HOK.out p hpm)
   have HKEY:=Lib.hid (keyOf_pl (HRG.out p hpm))
   have HTK:=Lib.hid (show (L.take (k+1)).map kp=(L.take k).map kp ++ [kp p] from by
    rw [take_snoc L (0,0) hkl,hp,List.map_append]
    rfl)
   have h4:=hp4 k hlt
   rw [hp] at h4
   have hne:¬ pb=mb:=fun e=>by
    obtain ⟨es,clock,hb⟩:=HMAP.out
    have h5:=range_one h4 (j:=0) rfl
    rw [e] at h5
    simp [World.cell?,hb] at h5
   have HRG4:=Lib.hid (show wl.rangeAt pb (po+k*2) [.int .i64 p.1,.int .i64 p.2] from fun j v hv=>(HML.out.cell hpb hne).trans (h4 j v hv))
   clear hp4 hp hkl hpm hnew h4 hne hpb
   go_wp2_with (first
    | fail
    | ((with_reducible refine at_load 58 ?_); refine wpList_load_mid rfl 58 _ rfl pb (po+k*2) rfl [.int .i64 p.1,.int .i64 p.2] _ HRG4.out Try.underlying58 rfl size_pl ?_)
    | ((with_reducible refine at_alloc 58 ?_); refine al_zero rfl 58 rfl PZ2 zero_pl ?_
       intro G wh hqh hszh hxh)
    | ((with_reducible refine at_store 58 ?_); refine st_at rfl rfl 58 _ _ rfl G 0 _ #[.int .i64 p.1,.int .i64 p.2] PZ2 #[.int .i64 p.1,.int .i64 p.2] 58 rfl rfl rfl hqh (by exact (by decide:0+2≤2)) (by kernel_rfl) rfl rfl ?_
       intro wk hqk hmk
       have E5:Ext wl wk:=hxh.mutE hmk (fun g hg h=>by have h2:g=G:=h; omega)
       have HGK:=Lib.hid (show BoxAt wk G #[.int .i64 p.1,.int .i64 p.2] 58 from hqk)
       have HMK:=Lib.hid (HMS.out.ext E5)
       have HXK:=Lib.hid (HXR.out.ext E5)
       have HEK:=Lib.hid (HXL.out.trans E5)
       have HLK:=Lib.hid (HML.out.trans (E5.mut _))
       clear hqh hszh hxh hqk hmk E5 wh)
    | ((with_reducible refine at_load 47 ?_); refine wpList_load_row rfl 47 _ rfl X rfl 47 #[.int .i64 0,.int .i64 20,.int .i64 2,.int .i64 15,.int .i64 hold,.int .i64 20,.int .i64 300,.slice (some ⟨nb,no,none⟩) n ncap,sv] (0,0) _ HXK.out Try.underlying47 rfl size_net ?_)
    | ((with_reducible refine at_load 58 ?_); refine wpList_load_row rfl 58 _ rfl G rfl 58 #[.int .i64 p.1,.int .i64 p.2] (0,0) _ HGK.out Try.underlying58 rfl size_pl ?_))
   refine (has_any hold nb no n ncap sv N p wk (HN.out.ext HEK.out) HNN.out HPK.out).mono ?_
   rintro e w6 ⟨rfl,hx6⟩
   have HG6:=Lib.hid (HGK.out.ext hx6)
   have HM6:=Lib.hid (HMK.out.ext hx6)
   have HX6:=Lib.hid (HXK.out.ext hx6)
   have HL6:=Lib.hid (HLK.out.trans (hx6.mut _))
   have hlk:=HM6.out.look kpP Try.underlying124 HKEY.out HNW.out
   unfold plV at hlk
   have g0:w6.cell? ⟨G,0,none⟩=some (.int .i64 p.1):=HG6.out.cell 0 rfl
   have g1:w6.cell? ⟨G,1,none⟩=some (.int .i64 p.2):=HG6.out.cell 1 rfl
   clear hx6 HGK HMK HXK HEK HLK
   go_wp2_with (first
    | fail
    | ((with_reducible refine at_load 58 ?_); refine wpList_load_row rfl 58 _ rfl G rfl 58 #[.int .i64 p.1,.int .i64 p.2] (0,0) _ HG6.out Try.underlying58 rfl size_pl ?_)
    | simp only [hlk]
    | (at_mapUpdate; refine wpList_setU rfl _ _ _ rfl kpP Try.underlying124 mb (plV p) (kp p) rfl rfl rfl HM6.out (by have:=HFL.out; unfold maxLen; omega) HKEY.out ?_
       intro w9 hs9 hg9
       have hgm:=grown_mut hg9
       have HM9:=Lib.hid (show SetM w9 58 mb (k+1) ((L.take (k+1)).map kp) from by rw [HTK.out]; exact hs9)
       have HX9:=Lib.hid (HX6.out.mut hgm (fun h=>by have h2:mb=X:=(by simpa using h); have h3:=HMX.out; omega))
       have HL9:=Lib.hid (HL6.out.trans (hgm.mono (fun g _ h=>by have h2:mb=g:=(by simpa using h); exact h2.symm)))
       clear hs9 hg9 hgm hlk g0 g1))
   go_roundw
   case rel=>exact ⟨k+1,_,rfl,by go_num,hlt,HM9.out,HX9.out,HL9.out⟩
   case measure=>simp [intOf] <;> omega
  ·have dlt:decide ((k:Int) < (m:Int))=false:=by simp; omega
   obtain rfl:m=k:=by omega
   go_wp2_with fail
   go_ret
   exact ⟨rfl,HXL.out⟩
structure NetOk (N:List Nd) (S:List (List Pl)):Prop where
 nodes:NetR N
 one:1≤N.length∧N.length≤5
 segs:S.length≤20
 seg60:∀ j,j < S.length→(S.getD j []).length≤60
 flat:S.flatten.length≤1000
 ok:∀ p ∈ S.flatten,PlOk N p
 nodup:S.flatten.Nodup
theorem rnodes6 (nv sv:Value) (N:List Nd) (w:World) (hN:NodesAt w nv N) (hr:NetR N) (h1:1≤N.length) (hs1:sv.oneCell'=true):Calls Try.prog 32 #[.agg #[.int .i64 0,.int .i64 20,.int .i64 2,.int .i64 15,.int .i64 6,.int .i64 20,.int .i64 300,nv,sv]] w fun e w'=>e=.returned (.bool true)∧Ext w w':=rnodes_any 6 nv sv N w hN hr (.inl rfl) h1 hs1
theorem rnodes0 (nv sv:Value) (N:List Nd) (w:World) (hN:NodesAt w nv N) (hr:NetR N) (h1:1≤N.length) (hs1:sv.oneCell'=true):Calls Try.prog 32 #[.agg #[.int .i64 0,.int .i64 20,.int .i64 2,.int .i64 15,.int .i64 0,.int .i64 20,.int .i64 300,nv,sv]] w fun e w'=>e=.returned (.bool false)∧Ext w w':=rnodes_any 0 nv sv N w hN hr (.inr rfl) h1 hs1
set_option maxRecDepth 100000 in
set_option maxHeartbeats 4000000 in
theorem right6_any (nb no n ncap:Nat) (sv:Value) (N:List Nd) (S:List (List Pl)) (w:World) (hN:NodesAt w (.slice (some ⟨nb,no,none⟩) n ncap) N) (hn:N.length=n) (hS:SegsAt w sv S) (hok:NetOk N S) (hp:∀ x ∈ N,x.ports.length≤1000) (hsv:sv.oneCell'=true) :
    Calls Try.prog 17 #[.agg #[.int .i64 0,.int .i64 20,.int .i64 2,.int .i64 15,.int .i64 6,.int .i64 20,.int .i64 300,.slice (some ⟨nb,no,none⟩) n ncap,sv]] w fun e w'=>e=.returned (.bool true)∧Ext w w':=by
 have hn5:=hok.one.2
 rw [hn] at hn5
 have d64:decide ((n:Int)≤64)=true:=by simp; omega
 have HN:=Lib.hid hN
 have HS:=Lib.hid hS
 have HOK:=Lib.hid hok
 have HNN:=Lib.hid hn
 have HP:=Lib.hid hp
 have HSV:=Lib.hid hsv
 clear hN hS hok hn hp hsv
 go_enter Try.func17,Try.ntmps17
 go_wp2_with (first
  | fail
  | ((with_reducible refine at_box 47 ?_); refine bx_row rfl 47 _ rfl #[.int .i64 0,.int .i64 20,.int .i64 2,.int .i64 15,.int .i64 6,.int .i64 20,.int .i64 300,.slice (some ⟨nb,no,none⟩) n ncap,sv] rfl ?_
     intro X wa hX hsz hx1
     have HXa:=Lib.hid (show BoxAt wa X #[.int .i64 0,.int .i64 20,.int .i64 2,.int .i64 15,.int .i64 6,.int .i64 20,.int .i64 300,.slice (some ⟨nb,no,none⟩) n ncap,sv] 47 from hX)
     have HEa:=Lib.hid hx1
     have c5:wa.cell? ⟨X,5,none⟩=some (.int .i64 20):=HXa.out.cell 5 rfl
     have c6:wa.cell? ⟨X,6,none⟩=some (.int .i64 300):=HXa.out.cell 6 rfl
     have c7:wa.cell? ⟨X,7,none⟩=some (.slice (some ⟨nb,no,none⟩) n ncap):=HXa.out.cell 7 rfl
     clear hX hsz hx1))
 refine (fnew_any wa).mono ?_
 rintro e w1 ⟨fb,rfl,hx1⟩
 have HX1:=Lib.hid (HXa.out.ext hx1)
 have HE1:=Lib.hid (HEa.out.trans hx1)
 clear hx1 c5 c6 c7
 have d0:w1.cell? ⟨X,0,none⟩=some (.int .i64 0):=HX1.out.cell 0 rfl
 have d1:w1.cell? ⟨X,1,none⟩=some (.int .i64 20):=HX1.out.cell 1 rfl
 have d2:w1.cell? ⟨X,2,none⟩=some (.int .i64 2):=HX1.out.cell 2 rfl
 have d3:w1.cell? ⟨X,3,none⟩=some (.int .i64 15):=HX1.out.cell 3 rfl
 have d4:w1.cell? ⟨X,4,none⟩=some (.int .i64 6):=HX1.out.cell 4 rfl
 have d5:w1.cell? ⟨X,5,none⟩=some (.int .i64 20):=HX1.out.cell 5 rfl
 have d6:w1.cell? ⟨X,6,none⟩=some (.int .i64 300):=HX1.out.cell 6 rfl
 have d7:w1.cell? ⟨X,7,none⟩=some (.slice (some ⟨nb,no,none⟩) n ncap):=HX1.out.cell 7 rfl
 have d8:w1.cell? ⟨X,8,none⟩=some (sv):=HX1.out.cell 8 rfl
 go_wp2_with fail
 refine (rnodes6 (.slice (some ⟨nb,no,none⟩) n ncap) sv N w1 (HN.out.ext HE1.out) HOK.out.nodes HOK.out.one.1 HSV.out).mono ?_
 rintro e w2 ⟨rfl,hx2⟩
 have HX2:=Lib.hid (HX1.out.ext hx2)
 have HE2:=Lib.hid (HE1.out.trans hx2)
 clear hx2 d0 d1 d2 d3 d4 d5 d6 d7 d8
 have d0:w2.cell? ⟨X,0,none⟩=some (.int .i64 0):=HX2.out.cell 0 rfl
 have d1:w2.cell? ⟨X,1,none⟩=some (.int .i64 20):=HX2.out.cell 1 rfl
 have d2:w2.cell? ⟨X,2,none⟩=some (.int .i64 2):=HX2.out.cell 2 rfl
 have d3:w2.cell? ⟨X,3,none⟩=some (.int .i64 15):=HX2.out.cell 3 rfl
 have d4:w2.cell? ⟨X,4,none⟩=some (.int .i64 6):=HX2.out.cell 4 rfl
 have d5:w2.cell? ⟨X,5,none⟩=some (.int .i64 20):=HX2.out.cell 5 rfl
 have d6:w2.cell? ⟨X,6,none⟩=some (.int .i64 300):=HX2.out.cell 6 rfl
 have d7:w2.cell? ⟨X,7,none⟩=some (.slice (some ⟨nb,no,none⟩) n ncap):=HX2.out.cell 7 rfl
 have d8:w2.cell? ⟨X,8,none⟩=some (sv):=HX2.out.cell 8 rfl
 go_wp2_with fail
 refine (rsegs_any 6 nb no n ncap sv N S w2 (HN.out.ext HE2.out) HNN.out (by omega) HP.out (HS.out.ext HE2.out) HOK.out.flat HOK.out.segs HOK.out.seg60 HOK.out.ok HOK.out.nodup).mono ?_
 rintro e w3 ⟨rfl,hx3⟩
 have HE3:=Lib.hid (HE2.out.trans hx3)
 clear hx3 d0 d1 d2 d3 d4 d5 d6 d7 d8
 go_wp2_with fail
 go_ret
 exact ⟨rfl,HE3.out⟩
set_option maxRecDepth 100000 in
set_option maxHeartbeats 4000000 in
theorem right0_any (nb no n ncap:Nat) (sv:Value) (N:List Nd) (S:List (List Pl)) (w:World) (hN:NodesAt w (.slice (some ⟨nb,no,none⟩) n ncap) N) (hn:N.length=n) (hS:SegsAt w sv S) (hok:NetOk N S) (hp:∀ x ∈ N,x.ports.length≤1000) (hsv:sv.oneCell'=true) :
    Calls Try.prog 17 #[.agg #[.int .i64 0,.int .i64 20,.int .i64 2,.int .i64 15,.int .i64 0,.int .i64 20,.int .i64 300,.slice (some ⟨nb,no,none⟩) n ncap,sv]] w fun e w'=>e=.returned (.bool false)∧Ext w w':=by
 have hn5:=hok.one.2
 rw [hn] at hn5
 have d64:decide ((n:Int)≤64)=true:=by simp; omega
 have HN:=Lib.hid hN
 have HS:=Lib.hid hS
 have HOK:=Lib.hid hok
 have HNN:=Lib.hid hn
 have HP:=Lib.hid hp
 have HSV:=Lib.hid hsv
 clear hN hS hok hn hp hsv
 go_enter Try.func17,Try.ntmps17
 go_wp2_with (first
  | fail
  | ((with_reducible refine at_box 47 ?_); refine bx_row rfl 47 _ rfl #[.int .i64 0,.int .i64 20,.int .i64 2,.int .i64 15,.int .i64 0,.int .i64 20,.int .i64 300,.slice (some ⟨nb,no,none⟩) n ncap,sv] rfl ?_
     intro X wa hX hsz hx1
     have HXa:=Lib.hid (show BoxAt wa X #[.int .i64 0,.int .i64 20,.int .i64 2,.int .i64 15,.int .i64 0,.int .i64 20,.int .i64 300,.slice (some ⟨nb,no,none⟩) n ncap,sv] 47 from hX)
     have HEa:=Lib.hid hx1
     have c5:wa.cell? ⟨X,5,none⟩=some (.int .i64 20):=HXa.out.cell 5 rfl
     have c6:wa.cell? ⟨X,6,none⟩=some (.int .i64 300):=HXa.out.cell 6 rfl
     have c7:wa.cell? ⟨X,7,none⟩=some (.slice (some ⟨nb,no,none⟩) n ncap):=HXa.out.cell 7 rfl
     clear hX hsz hx1))
 refine (fnew_any wa).mono ?_
 rintro e w1 ⟨fb,rfl,hx1⟩
 have HX1:=Lib.hid (HXa.out.ext hx1)
 have HE1:=Lib.hid (HEa.out.trans hx1)
 clear hx1 c5 c6 c7
 have d0:w1.cell? ⟨X,0,none⟩=some (.int .i64 0):=HX1.out.cell 0 rfl
 have d1:w1.cell? ⟨X,1,none⟩=some (.int .i64 20):=HX1.out.cell 1 rfl
 have d2:w1.cell? ⟨X,2,none⟩=some (.int .i64 2):=HX1.out.cell 2 rfl
 have d3:w1.cell? ⟨X,3,none⟩=some (.int .i64 15):=HX1.out.cell 3 rfl
 have d4:w1.cell? ⟨X,4,none⟩=some (.int .i64 0):=HX1.out.cell 4 rfl
 have d5:w1.cell? ⟨X,5,none⟩=some (.int .i64 20):=HX1.out.cell 5 rfl
 have d6:w1.cell? ⟨X,6,none⟩=some (.int .i64 300):=HX1.out.cell 6 rfl
 have d7:w1.cell? ⟨X,7,none⟩=some (.slice (some ⟨nb,no,none⟩) n ncap):=HX1.out.cell 7 rfl
 have d8:w1.cell? ⟨X,8,none⟩=some (sv):=HX1.out.cell 8 rfl
 go_wp2_with fail
 refine (rnodes0 (.slice (some ⟨nb,no,none⟩) n ncap) sv N w1 (HN.out.ext HE1.out) HOK.out.nodes HOK.out.one.1 HSV.out).mono ?_
 rintro e w2 ⟨rfl,hx2⟩
 have HX2:=Lib.hid (HX1.out.ext hx2)
 have HE2:=Lib.hid (HE1.out.trans hx2)
 clear hx2 d0 d1 d2 d3 d4 d5 d6 d7 d8
 go_wp2_with fail
 go_ret
 exact ⟨rfl,HE2.out⟩
end Go.Proofs.Ytamnmjckhicapaa
