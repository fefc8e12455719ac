/- Part 24 of what BridgeHold stands on. No statement is proved here. -/
import Derived.Test.YtpanapepcbbagaaGreatBpw
set_option linter.unusedVariables false
set_option linter.unusedSimpArgs false
set_option maxRecDepth 100000
set_option maxHeartbeats 8000000
namespace Go.Proofs.YtpanapepcbbagaaGreat
open Go.RowKit Go.BigFrame Go.WideShapes Go.ChangeShapes Go.Deep
def okv(k:Option IntKind)(v:Value):Bool:=match k,v with
 | none,.bool _=>true
 | some q,.int p z=>(p == q) && (Lit.int q z).wf
 | _,_=>false
def okl:List (Option IntKind)→List Value→Bool
 | [],[]=>true
 | k :: l,v :: cs=>okv k v && okl l cs
 | _,_=>false
theorem okv_ok{k:Option IntKind}{v:Value}(h:okv k v=true):cellOk k v:=by
 unfold okv at h
 split at h
 ·exact⟨_,rfl⟩
 ·simp only[Bool.and_eq_true,beq_iff_eq]at h
  obtain⟨rfl,h2⟩:=h
  exact⟨_,rfl,h2⟩
 ·exact absurd h (by simp)
theorem okl_ok:∀{l:List (Option IntKind)} {cs:List Value},okl l cs=true→AllOk l cs
 | [],[],_=>trivial
 | k :: l,v :: cs,h=>by
  simp only[okl,Bool.and_eq_true]at h
  exact⟨okv_ok h.1,okl_ok h.2⟩
 | [],_ :: _,h=>by simp[okl]at h
 | _ :: _,[],h=>by simp[okl]at h
theorem row1{l:List (Option IntKind)}{cs:List Value}(h:okl l cs=true):RowTyped l 1 cs:=by
 have ht:=typed_all (okl_ok h)
 refine⟨by rw[ht.1];simp,fun i hi=>?_⟩
 obtain rfl:i=0:=by omega
 rw[Nat.zero_mul,List.drop_zero,List.take_of_length_le (by rw[ht.1];exact Nat.le_refl _)]
 exact ht
theorem row0{l:List (Option IntKind)}:RowTyped l 0 []:=⟨by simp,fun i hi=>absurd hi (by omega)⟩
def z0:Br:=⟨[.int .u64 7,.bool true,.int .i64 0,.int .i64 20,.int .i64 2,.int .i64 15,.int .i64 6,.int .u64 7,.int .u32 0,.int .u64 7,.int .u16 0,.int .u16 0,.int .i64 (-1),.int .i64 0,.int .i64 20,.int .i64 2,.int .i64 15],1,[.int .u16 1,.int .u32 5,.bool true,.bool false,.bool true,.bool false,.int .i64 3,.int .i64 20,.int .i64 2,.int .i64 3,.int .i64 0,.int .i64 0,.int .i64 15,.int .i64 0,.int .i64 0,.int .i64 0,.int .i64 0,.int .i64 0,.int .i64 0,.int .i64 0,.int .i64 0,.int .i64 0,.bool false,.bool false,.bool false,.bool true,.bool false,.bool false,.bool false,.bool false,.bool false,.bool true,.bool true,.bool false,.bool false,.bool false,.bool false,.bool false,.bool false,.bool false,.bool false,.bool false,.bool true,.bool true,.bool false,.bool true,.bool true,.bool false,.bool false,.bool false,.bool false,.int .i64 0,.bool false,.bool false,.bool false,.bool false,.bool false,.bool false,.int .i64 0,.int .u64 0,.int .u32 0,.int .u64 0,.int .u16 0,.int .u16 0,.int .i64 0,.int .i64 0,.int .i64 0,.int .i64 0,.int .u64 0,.int .u32 0,.int .u64 0,.int .u16 0,.int .u16 0,.int .u64 0,.int .u32 0,.int .u64 0,.int .u16 0,.int .u16 0,.int .i64 0,.int .i64 0,.int .i64 0,.int .i64 0,.int .i64 0,.int .i64 0,.int .i64 0,.int .i64 0,.int .i64 0,.int .i64 0,.int .i64 0],0,[],0,[]⟩
def z1:Br:=⟨[.int .u64 7,.bool true,.int .i64 0,.int .i64 20,.int .i64 2,.int .i64 15,.int .i64 6,.int .u64 7,.int .u32 0,.int .u64 7,.int .u16 0,.int .u16 0,.int .i64 (-1),.int .i64 0,.int .i64 20,.int .i64 2,.int .i64 15],1,[.int .u16 1,.int .u32 5,.bool true,.bool false,.bool true,.bool false,.int .i64 3,.int .i64 20,.int .i64 2,.int .i64 3,.int .i64 0,.int .i64 0,.int .i64 15,.int .i64 0,.int .i64 0,.int .i64 0,.int .i64 0,.int .i64 0,.int .i64 0,.int .i64 0,.int .i64 0,.int .i64 0,.bool false,.bool false,.bool false,.bool true,.bool false,.bool false,.bool false,.bool false,.bool false,.bool true,.bool true,.bool false,.bool false,.bool false,.bool false,.bool false,.bool false,.bool false,.bool false,.bool false,.bool true,.bool false,.bool true,.bool true,.bool true,.bool false,.bool false,.bool false,.bool false,.int .i64 0,.bool false,.bool false,.bool false,.bool false,.bool false,.bool false,.int .i64 0,.int .u64 0,.int .u32 0,.int .u64 0,.int .u16 0,.int .u16 0,.int .i64 0,.int .i64 0,.int .i64 0,.int .i64 0,.int .u64 0,.int .u32 0,.int .u64 0,.int .u16 0,.int .u16 0,.int .u64 7,.int .u32 0,.int .u64 7,.int .u16 1,.int .u16 0,.int .i64 0,.int .i64 0,.int .i64 0,.int .i64 0,.int .i64 0,.int .i64 20,.int .i64 2,.int .i64 15,.int .i64 0,.int .i64 0,.int .i64 0],0,[],0,[]⟩
def z2:Br:=⟨[.int .u64 7,.bool true,.int .i64 0,.int .i64 20,.int .i64 2,.int .i64 15,.int .i64 6,.int .u64 7,.int .u32 0,.int .u64 7,.int .u16 0,.int .u16 0,.int .i64 (-1),.int .i64 0,.int .i64 20,.int .i64 2,.int .i64 15],1,[.int .u16 1,.int .u32 5,.bool true,.bool false,.bool true,.bool false,.int .i64 3,.int .i64 20,.int .i64 2,.int .i64 3,.int .i64 0,.int .i64 0,.int .i64 15,.int .i64 0,.int .i64 0,.int .i64 0,.int .i64 0,.int .i64 0,.int .i64 1,.int .i64 0,.int .i64 0,.int .i64 0,.bool false,.bool false,.bool false,.bool true,.bool false,.bool false,.bool false,.bool false,.bool false,.bool true,.bool true,.bool false,.bool false,.bool false,.bool false,.bool false,.bool false,.bool false,.bool false,.bool false,.bool true,.bool true,.bool false,.bool true,.bool true,.bool false,.bool false,.bool false,.bool false,.int .i64 0,.bool false,.bool false,.bool false,.bool false,.bool false,.bool false,.int .i64 0,.int .u64 0,.int .u32 0,.int .u64 0,.int .u16 0,.int .u16 0,.int .i64 0,.int .i64 0,.int .i64 0,.int .i64 0,.int .u64 0,.int .u32 0,.int .u64 0,.int .u16 0,.int .u16 0,.int .u64 7,.int .u32 0,.int .u64 7,.int .u16 1,.int .u16 0,.int .i64 0,.int .i64 0,.int .i64 0,.int .i64 0,.int .i64 0,.int .i64 20,.int .i64 2,.int .i64 15,.int .i64 1,.int .i64 0,.int .i64 0],0,[],0,[]⟩
def z3:Br:=⟨[.int .u64 7,.bool true,.int .i64 0,.int .i64 20,.int .i64 2,.int .i64 15,.int .i64 6,.int .u64 7,.int .u32 0,.int .u64 7,.int .u16 0,.int .u16 0,.int .i64 (-1),.int .i64 0,.int .i64 20,.int .i64 2,.int .i64 15],1,[.int .u16 1,.int .u32 5,.bool true,.bool false,.bool true,.bool false,.int .i64 3,.int .i64 20,.int .i64 2,.int .i64 3,.int .i64 0,.int .i64 0,.int .i64 15,.int .i64 0,.int .i64 0,.int .i64 0,.int .i64 0,.int .i64 0,.int .i64 1,.int .i64 0,.int .i64 0,.int .i64 0,.bool false,.bool false,.bool false,.bool false,.bool false,.bool false,.bool false,.bool false,.bool false,.bool true,.bool true,.bool false,.bool false,.bool false,.bool false,.bool false,.bool false,.bool false,.bool false,.bool false,.bool true,.bool true,.bool false,.bool true,.bool true,.bool false,.bool false,.bool false,.bool false,.int .i64 0,.bool false,.bool false,.bool false,.bool false,.bool false,.bool false,.int .i64 0,.int .u64 0,.int .u32 0,.int .u64 0,.int .u16 0,.int .u16 0,.int .i64 0,.int .i64 0,.int .i64 0,.int .i64 0,.int .u64 0,.int .u32 0,.int .u64 0,.int .u16 0,.int .u16 0,.int .u64 7,.int .u32 0,.int .u64 7,.int .u16 1,.int .u16 0,.int .i64 0,.int .i64 0,.int .i64 0,.int .i64 0,.int .i64 0,.int .i64 20,.int .i64 2,.int .i64 15,.int .i64 1,.int .i64 0,.int .i64 0],0,[],1,[.int .i64 0]⟩
def z4:Br:=⟨[.int .u64 7,.bool true,.int .i64 0,.int .i64 20,.int .i64 2,.int .i64 15,.int .i64 6,.int .u64 7,.int .u32 0,.int .u64 7,.int .u16 0,.int .u16 0,.int .i64 (-1),.int .i64 0,.int .i64 20,.int .i64 2,.int .i64 15],1,[.int .u16 1,.int .u32 5,.bool true,.bool false,.bool true,.bool false,.int .i64 3,.int .i64 20,.int .i64 2,.int .i64 3,.int .i64 0,.int .i64 0,.int .i64 15,.int .i64 0,.int .i64 0,.int .i64 0,.int .i64 0,.int .i64 0,.int .i64 1,.int .i64 0,.int .i64 0,.int .i64 0,.bool false,.bool false,.bool false,.bool false,.bool false,.bool false,.bool false,.bool false,.bool false,.bool true,.bool true,.bool false,.bool false,.bool false,.bool false,.bool false,.bool false,.bool false,.bool false,.bool false,.bool true,.bool false,.bool true,.bool true,.bool true,.bool false,.bool false,.bool false,.bool true,.int .i64 0,.bool false,.bool false,.bool false,.bool false,.bool false,.bool false,.int .i64 0,.int .u64 0,.int .u32 0,.int .u64 0,.int .u16 0,.int .u16 0,.int .i64 0,.int .i64 0,.int .i64 0,.int .i64 0,.int .u64 0,.int .u32 0,.int .u64 0,.int .u16 0,.int .u16 0,.int .u64 7,.int .u32 0,.int .u64 7,.int .u16 1,.int .u16 0,.int .i64 0,.int .i64 0,.int .i64 0,.int .i64 0,.int .i64 0,.int .i64 20,.int .i64 2,.int .i64 15,.int .i64 1,.int .i64 0,.int .i64 4],0,[],1,[.int .i64 0]⟩
def z5:Br:=⟨[.int .u64 7,.bool true,.int .i64 0,.int .i64 20,.int .i64 2,.int .i64 15,.int .i64 6,.int .u64 7,.int .u32 0,.int .u64 7,.int .u16 0,.int .u16 0,.int .i64 (-1),.int .i64 0,.int .i64 20,.int .i64 2,.int .i64 15],1,[.int .u16 1,.int .u32 5,.bool true,.bool false,.bool true,.bool false,.int .i64 3,.int .i64 20,.int .i64 2,.int .i64 3,.int .i64 0,.int .i64 0,.int .i64 15,.int .i64 0,.int .i64 0,.int .i64 0,.int .i64 0,.int .i64 0,.int .i64 2,.int .i64 0,.int .i64 0,.int .i64 0,.bool false,.bool false,.bool false,.bool false,.bool false,.bool false,.bool false,.bool false,.bool false,.bool true,.bool true,.bool false,.bool false,.bool false,.bool false,.bool false,.bool false,.bool false,.bool false,.bool false,.bool true,.bool false,.bool true,.bool true,.bool true,.bool false,.bool false,.bool false,.bool false,.int .i64 0,.bool false,.bool false,.bool false,.bool false,.bool false,.bool false,.int .i64 0,.int .u64 0,.int .u32 0,.int .u64 0,.int .u16 0,.int .u16 0,.int .i64 0,.int .i64 0,.int .i64 0,.int .i64 0,.int .u64 7,.int .u32 0,.int .u64 7,.int .u16 1,.int .u16 0,.int .u64 7,.int .u32 0,.int .u64 7,.int .u16 1,.int .u16 0,.int .i64 0,.int .i64 20,.int .i64 2,.int .i64 15,.int .i64 0,.int .i64 20,.int .i64 2,.int .i64 15,.int .i64 2,.int .i64 0,.int .i64 4],0,[],1,[.int .i64 0]⟩
def z6:Br:=⟨[.int .u64 7,.bool true,.int .i64 0,.int .i64 20,.int .i64 2,.int .i64 15,.int .i64 6,.int .u64 7,.int .u32 0,.int .u64 7,.int .u16 0,.int .u16 0,.int .i64 (-1),.int .i64 0,.int .i64 20,.int .i64 2,.int .i64 15],1,[.int .u16 1,.int .u32 5,.bool true,.bool false,.bool true,.bool false,.int .i64 3,.int .i64 20,.int .i64 2,.int .i64 3,.int .i64 0,.int .i64 0,.int .i64 15,.int .i64 0,.int .i64 0,.int .i64 0,.int .i64 0,.int .i64 0,.int .i64 2,.int .i64 3,.int .i64 0,.int .i64 0,.bool false,.bool false,.bool false,.bool false,.bool false,.bool false,.bool false,.bool false,.bool false,.bool true,.bool true,.bool false,.bool false,.bool false,.bool false,.bool false,.bool false,.bool false,.bool false,.bool false,.bool true,.bool false,.bool true,.bool true,.bool true,.bool false,.bool false,.bool false,.bool false,.int .i64 0,.bool false,.bool false,.bool false,.bool false,.bool false,.bool false,.int .i64 0,.int .u64 0,.int .u32 0,.int .u64 0,.int .u16 0,.int .u16 0,.int .i64 0,.int .i64 0,.int .i64 0,.int .i64 0,.int .u64 7,.int .u32 0,.int .u64 7,.int .u16 1,.int .u16 0,.int .u64 7,.int .u32 0,.int .u64 7,.int .u16 1,.int .u16 0,.int .i64 0,.int .i64 20,.int .i64 2,.int .i64 15,.int .i64 0,.int .i64 20,.int .i64 2,.int .i64 15,.int .i64 2,.int .i64 4,.int .i64 4],0,[],1,[.int .i64 0]⟩
def z7:Br:=⟨[.int .u64 7,.bool true,.int .i64 0,.int .i64 20,.int .i64 2,.int .i64 15,.int .i64 6,.int .u64 7,.int .u32 0,.int .u64 7,.int .u16 0,.int .u16 0,.int .i64 (-1),.int .i64 0,.int .i64 20,.int .i64 2,.int .i64 15],1,[.int .u16 1,.int .u32 5,.bool true,.bool false,.bool true,.bool false,.int .i64 3,.int .i64 20,.int .i64 2,.int .i64 3,.int .i64 0,.int .i64 0,.int .i64 15,.int .i64 0,.int .i64 1,.int .i64 0,.int .i64 0,.int .i64 0,.int .i64 2,.int .i64 3,.int .i64 0,.int .i64 0,.bool false,.bool false,.bool false,.bool false,.bool false,.bool false,.bool false,.bool false,.bool false,.bool false,.bool true,.bool false,.bool false,.bool false,.bool false,.bool false,.bool false,.bool false,.bool false,.bool false,.bool true,.bool false,.bool true,.bool true,.bool true,.bool false,.bool false,.bool false,.bool false,.int .i64 0,.bool false,.bool false,.bool false,.bool false,.bool false,.bool false,.int .i64 0,.int .u64 0,.int .u32 0,.int .u64 0,.int .u16 0,.int .u16 0,.int .i64 0,.int .i64 0,.int .i64 0,.int .i64 0,.int .u64 7,.int .u32 0,.int .u64 7,.int .u16 1,.int .u16 0,.int .u64 7,.int .u32 0,.int .u64 7,.int .u16 1,.int .u16 0,.int .i64 0,.int .i64 20,.int .i64 2,.int .i64 15,.int .i64 0,.int .i64 20,.int .i64 2,.int .i64 15,.int .i64 2,.int .i64 4,.int .i64 4],1,[.int .i64 0,.int .i64 2,.bool false,.bool false,.bool false,.bool false,.bool false,.bool false,.int .i64 4,.int .u64 7,.int .u32 0,.int .u64 7,.int .u16 1,.int .u16 0,.int .i64 0,.int .i64 20,.int .i64 2,.int .i64 15],1,[.int .i64 0]⟩
def z8:Br:=⟨[.int .u64 7,.bool true,.int .i64 0,.int .i64 20,.int .i64 2,.int .i64 15,.int .i64 6,.int .u64 7,.int .u32 0,.int .u64 7,.int .u16 0,.int .u16 0,.int .i64 (-1),.int .i64 0,.int .i64 20,.int .i64 2,.int .i64 15],1,[.int .u16 1,.int .u32 5,.bool true,.bool false,.bool true,.bool false,.int .i64 3,.int .i64 20,.int .i64 2,.int .i64 3,.int .i64 0,.int .i64 0,.int .i64 0,.int .i64 0,.int .i64 1,.int .i64 0,.int .i64 0,.int .i64 0,.int .i64 2,.int .i64 3,.int .i64 0,.int .i64 0,.bool false,.bool false,.bool false,.bool false,.bool false,.bool false,.bool false,.bool false,.bool false,.bool false,.bool true,.bool false,.bool false,.bool false,.bool false,.bool false,.bool false,.bool false,.bool false,.bool false,.bool true,.bool false,.bool true,.bool true,.bool false,.bool true,.bool false,.bool false,.bool false,.int .i64 0,.bool false,.bool false,.bool false,.bool false,.bool false,.bool false,.int .i64 0,.int .u64 0,.int .u32 0,.int .u64 0,.int .u16 0,.int .u16 0,.int .i64 0,.int .i64 0,.int .i64 0,.int .i64 0,.int .u64 7,.int .u32 0,.int .u64 7,.int .u16 1,.int .u16 0,.int .u64 7,.int .u32 0,.int .u64 7,.int .u16 1,.int .u16 0,.int .i64 0,.int .i64 20,.int .i64 2,.int .i64 15,.int .i64 0,.int .i64 20,.int .i64 2,.int .i64 15,.int .i64 2,.int .i64 4,.int .i64 4],1,[.int .i64 0,.int .i64 2,.bool false,.bool false,.bool false,.bool false,.bool false,.bool false,.int .i64 4,.int .u64 7,.int .u32 0,.int .u64 7,.int .u16 1,.int .u16 0,.int .i64 0,.int .i64 20,.int .i64 2,.int .i64 15],1,[.int .i64 0]⟩
def z9:Br:=⟨[.int .u64 7,.bool true,.int .i64 0,.int .i64 20,.int .i64 2,.int .i64 15,.int .i64 6,.int .u64 7,.int .u32 0,.int .u64 7,.int .u16 0,.int .u16 0,.int .i64 (-1),.int .i64 0,.int .i64 20,.int .i64 2,.int .i64 15],1,[.int .u16 1,.int .u32 5,.bool true,.bool false,.bool true,.bool false,.int .i64 3,.int .i64 20,.int .i64 2,.int .i64 3,.int .i64 0,.int .i64 0,.int .i64 0,.int .i64 0,.int .i64 1,.int .i64 0,.int .i64 0,.int .i64 0,.int .i64 2,.int .i64 3,.int .i64 0,.int .i64 0,.bool false,.bool false,.bool false,.bool false,.bool false,.bool false,.bool false,.bool false,.bool false,.bool false,.bool true,.bool false,.bool false,.bool false,.bool false,.bool false,.bool false,.bool false,.bool false,.bool false,.bool false,.bool false,.bool true,.bool true,.bool false,.bool true,.bool false,.bool false,.bool false,.int .i64 0,.bool false,.bool false,.bool false,.bool false,.bool false,.bool false,.int .i64 0,.int .u64 0,.int .u32 0,.int .u64 0,.int .u16 0,.int .u16 0,.int .i64 0,.int .i64 0,.int .i64 0,.int .i64 0,.int .u64 7,.int .u32 0,.int .u64 7,.int .u16 1,.int .u16 0,.int .u64 7,.int .u32 0,.int .u64 7,.int .u16 1,.int .u16 0,.int .i64 0,.int .i64 20,.int .i64 2,.int .i64 15,.int .i64 0,.int .i64 20,.int .i64 2,.int .i64 15,.int .i64 2,.int .i64 4,.int .i64 4],1,[.int .i64 0,.int .i64 2,.bool false,.bool false,.bool false,.bool false,.bool false,.bool false,.int .i64 4,.int .u64 7,.int .u32 0,.int .u64 7,.int .u16 1,.int .u16 0,.int .i64 0,.int .i64 20,.int .i64 2,.int .i64 15],1,[.int .i64 0]⟩
def z10:Br:=⟨[.int .u64 7,.bool true,.int .i64 0,.int .i64 20,.int .i64 2,.int .i64 15,.int .i64 6,.int .u64 7,.int .u32 0,.int .u64 7,.int .u16 0,.int .u16 0,.int .i64 (-1),.int .i64 0,.int .i64 20,.int .i64 2,.int .i64 15],1,[.int .u16 1,.int .u32 5,.bool true,.bool false,.bool true,.bool false,.int .i64 3,.int .i64 2,.int .i64 2,.int .i64 3,.int .i64 0,.int .i64 0,.int .i64 0,.int .i64 0,.int .i64 1,.int .i64 0,.int .i64 0,.int .i64 0,.int .i64 2,.int .i64 3,.int .i64 0,.int .i64 0,.bool false,.bool false,.bool false,.bool false,.bool false,.bool false,.bool true,.bool false,.bool false,.bool false,.bool true,.bool false,.bool false,.bool false,.bool false,.bool false,.bool false,.bool false,.bool false,.bool false,.bool false,.bool false,.bool true,.bool true,.bool false,.bool true,.bool false,.bool false,.bool false,.int .i64 0,.bool false,.bool false,.bool false,.bool false,.bool false,.bool false,.int .i64 0,.int .u64 0,.int .u32 0,.int .u64 0,.int .u16 0,.int .u16 0,.int .i64 0,.int .i64 0,.int .i64 0,.int .i64 0,.int .u64 7,.int .u32 0,.int .u64 7,.int .u16 1,.int .u16 0,.int .u64 7,.int .u32 0,.int .u64 7,.int .u16 1,.int .u16 0,.int .i64 0,.int .i64 20,.int .i64 2,.int .i64 15,.int .i64 0,.int .i64 20,.int .i64 2,.int .i64 15,.int .i64 2,.int .i64 4,.int .i64 4],1,[.int .i64 0,.int .i64 2,.bool false,.bool false,.bool false,.bool false,.bool false,.bool false,.int .i64 4,.int .u64 7,.int .u32 0,.int .u64 7,.int .u16 1,.int .u16 0,.int .i64 0,.int .i64 20,.int .i64 2,.int .i64 15],1,[.int .i64 0]⟩
def z11:Br:=⟨[.int .u64 7,.bool true,.int .i64 0,.int .i64 20,.int .i64 2,.int .i64 15,.int .i64 6,.int .u64 7,.int .u32 0,.int .u64 7,.int .u16 0,.int .u16 0,.int .i64 (-1),.int .i64 0,.int .i64 20,.int .i64 2,.int .i64 15],1,[.int .u16 1,.int .u32 5,.bool true,.bool false,.bool true,.bool false,.int .i64 3,.int .i64 2,.int .i64 2,.int .i64 3,.int .i64 0,.int .i64 0,.int .i64 0,.int .i64 0,.int .i64 1,.int .i64 0,.int .i64 0,.int .i64 0,.int .i64 2,.int .i64 3,.int .i64 1,.int .i64 0,.bool false,.bool false,.bool false,.bool false,.bool false,.bool false,.bool true,.bool true,.bool false,.bool false,.bool true,.bool false,.bool false,.bool false,.bool false,.bool false,.bool false,.bool false,.bool false,.bool false,.bool false,.bool false,.bool true,.bool true,.bool false,.bool true,.bool false,.bool false,.bool false,.int .i64 0,.bool false,.bool false,.bool false,.bool false,.bool false,.bool false,.int .i64 0,.int .u64 0,.int .u32 0,.int .u64 0,.int .u16 0,.int .u16 0,.int .i64 0,.int .i64 0,.int .i64 0,.int .i64 0,.int .u64 7,.int .u32 0,.int .u64 7,.int .u16 1,.int .u16 0,.int .u64 7,.int .u32 0,.int .u64 7,.int .u16 1,.int .u16 0,.int .i64 0,.int .i64 20,.int .i64 2,.int .i64 15,.int .i64 0,.int .i64 20,.int .i64 2,.int .i64 15,.int .i64 2,.int .i64 4,.int .i64 4],1,[.int .i64 0,.int .i64 2,.bool false,.bool false,.bool false,.bool false,.bool false,.bool false,.int .i64 4,.int .u64 7,.int .u32 0,.int .u64 7,.int .u16 1,.int .u16 0,.int .i64 0,.int .i64 20,.int .i64 2,.int .i64 15],1,[.int .i64 0]⟩
def z12:Br:=⟨[.int .u64 7,.bool true,.int .i64 0,.int .i64 20,.int .i64 2,.int .i64 15,.int .i64 6,.int .u64 7,.int .u32 0,.int .u64 7,.int .u16 0,.int .u16 0,.int .i64 (-1),.int .i64 0,.int .i64 20,.int .i64 2,.int .i64 15],1,[.int .u16 1,.int .u32 5,.bool true,.bool false,.bool true,.bool false,.int .i64 3,.int .i64 2,.int .i64 2,.int .i64 3,.int .i64 0,.int .i64 0,.int .i64 0,.int .i64 0,.int .i64 1,.int .i64 0,.int .i64 0,.int .i64 0,.int .i64 2,.int .i64 3,.int .i64 1,.int .i64 1,.bool false,.bool false,.bool false,.bool false,.bool false,.bool false,.bool true,.bool true,.bool false,.bool false,.bool true,.bool false,.bool false,.bool false,.bool false,.bool false,.bool false,.bool false,.bool false,.bool false,.bool false,.bool false,.bool true,.bool true,.bool false,.bool true,.bool false,.bool false,.bool false,.int .i64 0,.bool false,.bool false,.bool false,.bool false,.bool false,.bool false,.int .i64 0,.int .u64 0,.int .u32 0,.int .u64 0,.int .u16 0,.int .u16 0,.int .i64 0,.int .i64 0,.int .i64 0,.int .i64 0,.int .u64 7,.int .u32 0,.int .u64 7,.int .u16 1,.int .u16 0,.int .u64 7,.int .u32 0,.int .u64 7,.int .u16 1,.int .u16 0,.int .i64 0,.int .i64 20,.int .i64 2,.int .i64 15,.int .i64 0,.int .i64 20,.int .i64 2,.int .i64 15,.int .i64 2,.int .i64 4,.int .i64 4],1,[.int .i64 0,.int .i64 2,.bool false,.bool false,.bool false,.bool false,.bool false,.bool false,.int .i64 4,.int .u64 7,.int .u32 0,.int .u64 7,.int .u16 1,.int .u16 0,.int .i64 0,.int .i64 20,.int .i64 2,.int .i64 15],1,[.int .i64 0]⟩
def z13:Br:=⟨[.int .u64 7,.bool true,.int .i64 0,.int .i64 20,.int .i64 2,.int .i64 15,.int .i64 6,.int .u64 7,.int .u32 0,.int .u64 7,.int .u16 0,.int .u16 0,.int .i64 (-1),.int .i64 0,.int .i64 20,.int .i64 2,.int .i64 15],1,[.int .u16 1,.int .u32 5,.bool true,.bool false,.bool true,.bool false,.int .i64 3,.int .i64 0,.int .i64 2,.int .i64 3,.int .i64 0,.int .i64 0,.int .i64 0,.int .i64 0,.int .i64 1,.int .i64 0,.int .i64 0,.int .i64 0,.int .i64 2,.int .i64 3,.int .i64 1,.int .i64 1,.bool false,.bool true,.bool false,.bool false,.bool true,.bool false,.bool true,.bool true,.bool false,.bool false,.bool true,.bool false,.bool false,.bool false,.bool false,.bool false,.bool false,.bool false,.bool false,.bool false,.bool false,.bool false,.bool true,.bool true,.bool false,.bool true,.bool false,.bool false,.bool false,.int .i64 0,.bool false,.bool false,.bool false,.bool false,.bool false,.bool false,.int .i64 0,.int .u64 0,.int .u32 0,.int .u64 0,.int .u16 0,.int .u16 0,.int .i64 0,.int .i64 0,.int .i64 0,.int .i64 0,.int .u64 7,.int .u32 0,.int .u64 7,.int .u16 1,.int .u16 0,.int .u64 7,.int .u32 0,.int .u64 7,.int .u16 1,.int .u16 0,.int .i64 0,.int .i64 20,.int .i64 2,.int .i64 15,.int .i64 0,.int .i64 20,.int .i64 2,.int .i64 15,.int .i64 2,.int .i64 4,.int .i64 4],1,[.int .i64 0,.int .i64 2,.bool false,.bool false,.bool false,.bool false,.bool false,.bool false,.int .i64 4,.int .u64 7,.int .u32 0,.int .u64 7,.int .u16 1,.int .u16 0,.int .i64 0,.int .i64 20,.int .i64 2,.int .i64 15],1,[.int .i64 0]⟩
def z14:Br:=⟨[.int .u64 7,.bool true,.int .i64 0,.int .i64 20,.int .i64 2,.int .i64 15,.int .i64 6,.int .u64 7,.int .u32 0,.int .u64 7,.int .u16 0,.int .u16 0,.int .i64 (-1),.int .i64 0,.int .i64 20,.int .i64 2,.int .i64 15],1,[.int .u16 1,.int .u32 5,.bool true,.bool false,.bool true,.bool false,.int .i64 3,.int .i64 0,.int .i64 2,.int .i64 3,.int .i64 0,.int .i64 0,.int .i64 0,.int .i64 0,.int .i64 1,.int .i64 0,.int .i64 0,.int .i64 0,.int .i64 2,.int .i64 3,.int .i64 2,.int .i64 1,.bool false,.bool true,.bool false,.bool false,.bool true,.bool true,.bool true,.bool true,.bool false,.bool false,.bool true,.bool false,.bool false,.bool false,.bool false,.bool false,.bool false,.bool false,.bool false,.bool false,.bool false,.bool false,.bool true,.bool true,.bool false,.bool true,.bool false,.bool false,.bool false,.int .i64 0,.bool false,.bool false,.bool false,.bool false,.bool false,.bool false,.int .i64 0,.int .u64 0,.int .u32 0,.int .u64 0,.int .u16 0,.int .u16 0,.int .i64 0,.int .i64 0,.int .i64 0,.int .i64 0,.int .u64 7,.int .u32 0,.int .u64 7,.int .u16 1,.int .u16 0,.int .u64 7,.int .u32 0,.int .u64 7,.int .u16 1,.int .u16 0,.int .i64 0,.int .i64 20,.int .i64 2,.int .i64 15,.int .i64 0,.int .i64 20,.int .i64 2,.int .i64 15,.int .i64 2,.int .i64 4,.int .i64 4],1,[.int .i64 0,.int .i64 2,.bool false,.bool false,.bool false,.bool false,.bool false,.bool false,.int .i64 4,.int .u64 7,.int .u32 0,.int .u64 7,.int .u16 1,.int .u16 0,.int .i64 0,.int .i64 20,.int .i64 2,.int .i64 15],1,[.int .i64 0]⟩
theorem z0_ok:z0.ok:=⟨typed_all (okl_ok (by kernel_rfl)),row1 (by kernel_rfl),row0,row0⟩
theorem z1_ok:z1.ok:=⟨typed_all (okl_ok (by kernel_rfl)),row1 (by kernel_rfl),row0,row0⟩
theorem z2_ok:z2.ok:=⟨typed_all (okl_ok (by kernel_rfl)),row1 (by kernel_rfl),row0,row0⟩
theorem z3_ok:z3.ok:=⟨typed_all (okl_ok (by kernel_rfl)),row1 (by kernel_rfl),row0,row1 (by kernel_rfl)⟩
theorem z4_ok:z4.ok:=⟨typed_all (okl_ok (by kernel_rfl)),row1 (by kernel_rfl),row0,row1 (by kernel_rfl)⟩
theorem z5_ok:z5.ok:=⟨typed_all (okl_ok (by kernel_rfl)),row1 (by kernel_rfl),row0,row1 (by kernel_rfl)⟩
theorem z6_ok:z6.ok:=⟨typed_all (okl_ok (by kernel_rfl)),row1 (by kernel_rfl),row0,row1 (by kernel_rfl)⟩
theorem z7_ok:z7.ok:=⟨typed_all (okl_ok (by kernel_rfl)),row1 (by kernel_rfl),row1 (by kernel_rfl),row1 (by kernel_rfl)⟩
theorem z8_ok:z8.ok:=⟨typed_all (okl_ok (by kernel_rfl)),row1 (by kernel_rfl),row1 (by kernel_rfl),row1 (by kernel_rfl)⟩
theorem z9_ok:z9.ok:=⟨typed_all (okl_ok (by kernel_rfl)),row1 (by kernel_rfl),row1 (by kernel_rfl),row1 (by kernel_rfl)⟩
theorem z10_ok:z10.ok:=⟨typed_all (okl_ok (by kernel_rfl)),row1 (by kernel_rfl),row1 (by kernel_rfl),row1 (by kernel_rfl)⟩
theorem z11_ok:z11.ok:=⟨typed_all (okl_ok (by kernel_rfl)),row1 (by kernel_rfl),row1 (by kernel_rfl),row1 (by kernel_rfl)⟩
theorem z12_ok:z12.ok:=⟨typed_all (okl_ok (by kernel_rfl)),row1 (by kernel_rfl),row1 (by kernel_rfl),row1 (by kernel_rfl)⟩
theorem z13_ok:z13.ok:=⟨typed_all (okl_ok (by kernel_rfl)),row1 (by kernel_rfl),row1 (by kernel_rfl),row1 (by kernel_rfl)⟩
theorem z14_ok:z14.ok:=⟨typed_all (okl_ok (by kernel_rfl)),row1 (by kernel_rfl),row1 (by kernel_rfl),row1 (by kernel_rfl)⟩
theorem So.eq{N:Nat→Prop}{X g:Nat}{w:World}{f:FuncId}{args:Array Value}{r r':Bool × Br}(h:Calls Tryz.prog f args w (So N X g (fun d B=>(d,B)=r) w))(e:r=r'):Calls Tryz.prog f args w (So N X g (fun d B=>d=r'.1∧B=r'.2) w):=by
 subst e
 refine h.mono ?_
 rintro e w' ⟨d,B,h1,h2,h3,h4⟩
 exact⟨d,B,h1,h2,h3,by rw[←h4],by rw[←h4]⟩
theorem c_sel_0{N:Nat→Prop}{X g:Nat}{w:World}(hQ:∀n,w.heap.size≤n→N n)(h:WB N X g z0 w):Calls Tryz.prog 36 #[.pointer (some ⟨X,0,none⟩)] w (So N X g (fun d B=>d=true∧B=z1) w) :=
 So.eq (r':=(true,z1)) ((sel_step w _ X g z0 h z0_ok (by decide) (by decide) (fun k hk=>by obtain rfl:k=0:=(by have h1:z0.np=1:=rfl;omega);exact(by decide +kernel))).mono fun _ _ hh=>So.of (r:=selF z0) hh rfl) (by kernel_rfl)
theorem c_rx_1{N:Nat→Prop}{X g:Nat}{w:World}(hQ:∀n,w.heap.size≤n→N n)(h:WB N X g z1 w):Calls Tryz.prog 37 #[.pointer (some ⟨X,0,none⟩),.int .i64 ((0:Nat):Int)] w (So N X g (fun d B=>d=false∧B=z1) w) :=
 So.eq (r':=(false,z1)) ((rx_step w _ X g 0 z1 h z1_ok (by decide) (by decide)).mono fun _ _ hh=>So.of (r:=rxF z1 0) hh rfl) (by kernel_rfl)
theorem c_mig_1{N:Nat→Prop}{X g:Nat}{w:World}(hQ:∀n,w.heap.size≤n→N n)(h:WB N X g z1 w):Calls Tryz.prog 38 #[.pointer (some ⟨X,0,none⟩),.int .i64 ((0:Nat):Int)] w (So N X g (fun d B=>d=false∧B=z1) w) :=
 So.eq (r':=(false,z1)) ((mig_step w _ X g 0 z1 h z1_ok (by decide) (by decide)).mono fun _ _ hh=>So.of (r:=migF z1 0) hh rfl) (by kernel_rfl)
theorem c_edge_1{N:Nat→Prop}{X g:Nat}{w:World}(hQ:∀n,w.heap.size≤n→N n)(h:WB N X g z1 w):Calls Tryz.prog 39 #[.pointer (some ⟨X,0,none⟩),.int .i64 ((0:Nat):Int)] w (So N X g (fun d B=>d=false∧B=z1) w) :=
 So.eq (r':=(false,z1)) ((edge_step w _ X g 0 z1 h z1_ok (by decide) (by decide)).mono fun _ _ hh=>So.of (r:=edgeF z1 0) hh rfl) (by kernel_rfl)
theorem c_info_1{N:Nat→Prop}{X g:Nat}{w:World}(hQ:∀n,w.heap.size≤n→N n)(h:WB N X g z1 w):Calls Tryz.prog 40 #[.pointer (some ⟨X,0,none⟩),.int .i64 ((0:Nat):Int)] w (So N X g (fun d B=>d=true∧B=z2) w) :=
 So.eq (r':=(true,z2)) ((inf_step w _ X g 0 z1 h z1_ok (by decide) (by decide) (by unfold TimR TF;exact(by decide +kernel))).mono fun _ _ hh=>So.of (r:=infF z1 0) hh rfl) (by kernel_rfl)
theorem c_trans_2{N:Nat→Prop}{X g:Nat}{w:World}(hQ:∀n,w.heap.size≤n→N n)(h:WB N X g z2 w):Calls Tryz.prog 41 #[.pointer (some ⟨X,0,none⟩),.int .i64 ((0:Nat):Int)] w (So N X g (fun d B=>d=false∧B=z2) w) :=
 So.eq (r':=(false,z2)) ((trans_step w _ X g 0 z2 h z2_ok (by decide) (by decide) (fun n hn=>hn.2) (by decide +kernel)).mono fun _ _ hh=>So.of (r:=trF z2 0) hh rfl) (by kernel_rfl)
theorem c_passage_2{N:Nat→Prop}{X g:Nat}{w:World}(hQ:∀n,w.heap.size≤n→N n)(h:WB N X g z2 w):Calls Tryz.prog 42 #[.pointer (some ⟨X,0,none⟩),.int .i64 ((0:Nat):Int)] w (So N X g (fun d B=>d=false∧B=z2) w) :=
 So.eq (r':=(false,z2)) ((pas_step w _ X g 0 z2 h z2_ok (by decide) (by decide)).mono fun _ _ hh=>So.of (r:=pasF z2 0) hh rfl) (by kernel_rfl)
theorem c_topo_2{N:Nat→Prop}{X g:Nat}{w:World}(hQ:∀n,w.heap.size≤n→N n)(h:WB N X g z2 w):Calls Tryz.prog 43 #[.pointer (some ⟨X,0,none⟩),.int .i64 ((0:Nat):Int)] w (So N X g (fun d B=>d=true∧B=z3) w) :=
 So.eq (r':=(true,z3)) ((top_stepW w N X g 0 z2 h z2_ok (by decide) (by decide) hQ (show TR (z2.hi 2) (z2.hi 3) (z2.hi 4) (z2.hi 5)from by unfold TR;exact(by decide +kernel)) (by decide)).mono fun _ _ hh=>So.ofW (r:=topF z2 0) hh rfl) (by kernel_rfl)
theorem c_tx_3{N:Nat→Prop}{X g:Nat}{w:World}(hQ:∀n,w.heap.size≤n→N n)(h:WB N X g z3 w):Calls Tryz.prog 44 #[.pointer (some ⟨X,0,none⟩),.int .i64 ((0:Nat):Int)] w (So N X g (fun d B=>d=false∧B=z3) w) :=
 So.eq (r':=(false,z3)) ((tx_stepW w N X g 0 z3 h z3_ok (by decide) (by decide) hQ (by decide +kernel) (by decide)).mono fun _ _ hh=>So.ofW (r:=txF z3 0) hh rfl) (by kernel_rfl)
theorem c_sel_3{N:Nat→Prop}{X g:Nat}{w:World}(hQ:∀n,w.heap.size≤n→N n)(h:WB N X g z3 w):Calls Tryz.prog 36 #[.pointer (some ⟨X,0,none⟩)] w (So N X g (fun d B=>d=true∧B=z4) w) :=
 So.eq (r':=(true,z4)) ((sel_step w _ X g z3 h z3_ok (by decide) (by decide) (fun k hk=>by obtain rfl:k=0:=(by have h1:z3.np=1:=rfl;omega);exact(by decide +kernel))).mono fun _ _ hh=>So.of (r:=selF z3) hh rfl) (by kernel_rfl)
theorem c_rx_4{N:Nat→Prop}{X g:Nat}{w:World}(hQ:∀n,w.heap.size≤n→N n)(h:WB N X g z4 w):Calls Tryz.prog 37 #[.pointer (some ⟨X,0,none⟩),.int .i64 ((0:Nat):Int)] w (So N X g (fun d B=>d=false∧B=z4) w) :=
 So.eq (r':=(false,z4)) ((rx_step w _ X g 0 z4 h z4_ok (by decide) (by decide)).mono fun _ _ hh=>So.of (r:=rxF z4 0) hh rfl) (by kernel_rfl)
theorem c_mig_4{N:Nat→Prop}{X g:Nat}{w:World}(hQ:∀n,w.heap.size≤n→N n)(h:WB N X g z4 w):Calls Tryz.prog 38 #[.pointer (some ⟨X,0,none⟩),.int .i64 ((0:Nat):Int)] w (So N X g (fun d B=>d=false∧B=z4) w) :=
 So.eq (r':=(false,z4)) ((mig_step w _ X g 0 z4 h z4_ok (by decide) (by decide)).mono fun _ _ hh=>So.of (r:=migF z4 0) hh rfl) (by kernel_rfl)
theorem c_edge_4{N:Nat→Prop}{X g:Nat}{w:World}(hQ:∀n,w.heap.size≤n→N n)(h:WB N X g z4 w):Calls Tryz.prog 39 #[.pointer (some ⟨X,0,none⟩),.int .i64 ((0:Nat):Int)] w (So N X g (fun d B=>d=false∧B=z4) w) :=
 So.eq (r':=(false,z4)) ((edge_step w _ X g 0 z4 h z4_ok (by decide) (by decide)).mono fun _ _ hh=>So.of (r:=edgeF z4 0) hh rfl) (by kernel_rfl)
theorem c_info_4{N:Nat→Prop}{X g:Nat}{w:World}(hQ:∀n,w.heap.size≤n→N n)(h:WB N X g z4 w):Calls Tryz.prog 40 #[.pointer (some ⟨X,0,none⟩),.int .i64 ((0:Nat):Int)] w (So N X g (fun d B=>d=true∧B=z5) w) :=
 So.eq (r':=(true,z5)) ((inf_step w _ X g 0 z4 h z4_ok (by decide) (by decide) (by unfold TimR TF;exact(by decide +kernel))).mono fun _ _ hh=>So.of (r:=infF z4 0) hh rfl) (by kernel_rfl)
theorem c_trans_5{N:Nat→Prop}{X g:Nat}{w:World}(hQ:∀n,w.heap.size≤n→N n)(h:WB N X g z5 w):Calls Tryz.prog 41 #[.pointer (some ⟨X,0,none⟩),.int .i64 ((0:Nat):Int)] w (So N X g (fun d B=>d=true∧B=z6) w) :=
 So.eq (r':=(true,z6)) ((trans_step w _ X g 0 z5 h z5_ok (by decide) (by decide) (fun n hn=>hn.2) (by decide +kernel)).mono fun _ _ hh=>So.of (r:=trF z5 0) hh rfl) (by kernel_rfl)
theorem c_passage_6{N:Nat→Prop}{X g:Nat}{w:World}(hQ:∀n,w.heap.size≤n→N n)(h:WB N X g z6 w):Calls Tryz.prog 42 #[.pointer (some ⟨X,0,none⟩),.int .i64 ((0:Nat):Int)] w (So N X g (fun d B=>d=false∧B=z6) w) :=
 So.eq (r':=(false,z6)) ((pas_step w _ X g 0 z6 h z6_ok (by decide) (by decide)).mono fun _ _ hh=>So.of (r:=pasF z6 0) hh rfl) (by kernel_rfl)
theorem c_topo_6{N:Nat→Prop}{X g:Nat}{w:World}(hQ:∀n,w.heap.size≤n→N n)(h:WB N X g z6 w):Calls Tryz.prog 43 #[.pointer (some ⟨X,0,none⟩),.int .i64 ((0:Nat):Int)] w (So N X g (fun d B=>d=false∧B=z6) w) :=
 So.eq (r':=(false,z6)) ((top_stepW w N X g 0 z6 h z6_ok (by decide) (by decide) hQ (show TR (z6.hi 2) (z6.hi 3) (z6.hi 4) (z6.hi 5)from by unfold TR;exact(by decide +kernel)) (by decide)).mono fun _ _ hh=>So.ofW (r:=topF z6 0) hh rfl) (by kernel_rfl)
theorem c_tx_6{N:Nat→Prop}{X g:Nat}{w:World}(hQ:∀n,w.heap.size≤n→N n)(h:WB N X g z6 w):Calls Tryz.prog 44 #[.pointer (some ⟨X,0,none⟩),.int .i64 ((0:Nat):Int)] w (So N X g (fun d B=>d=true∧B=z7) w) :=
 So.eq (r':=(true,z7)) ((tx_stepW w N X g 0 z6 h z6_ok (by decide) (by decide) hQ (by decide +kernel) (by decide)).mono fun _ _ hh=>So.ofW (r:=txF z6 0) hh rfl) (by kernel_rfl)
theorem c_sel_7{N:Nat→Prop}{X g:Nat}{w:World}(hQ:∀n,w.heap.size≤n→N n)(h:WB N X g z7 w):Calls Tryz.prog 36 #[.pointer (some ⟨X,0,none⟩)] w (So N X g (fun d B=>d=false∧B=z7) w) :=
 So.eq (r':=(false,z7)) ((sel_step w _ X g z7 h z7_ok (by decide) (by decide) (fun k hk=>by obtain rfl:k=0:=(by have h1:z7.np=1:=rfl;omega);exact(by decide +kernel))).mono fun _ _ hh=>So.of (r:=selF z7) hh rfl) (by kernel_rfl)
theorem c_rx_7{N:Nat→Prop}{X g:Nat}{w:World}(hQ:∀n,w.heap.size≤n→N n)(h:WB N X g z7 w):Calls Tryz.prog 37 #[.pointer (some ⟨X,0,none⟩),.int .i64 ((0:Nat):Int)] w (So N X g (fun d B=>d=false∧B=z7) w) :=
 So.eq (r':=(false,z7)) ((rx_step w _ X g 0 z7 h z7_ok (by decide) (by decide)).mono fun _ _ hh=>So.of (r:=rxF z7 0) hh rfl) (by kernel_rfl)
theorem c_mig_7{N:Nat→Prop}{X g:Nat}{w:World}(hQ:∀n,w.heap.size≤n→N n)(h:WB N X g z7 w):Calls Tryz.prog 38 #[.pointer (some ⟨X,0,none⟩),.int .i64 ((0:Nat):Int)] w (So N X g (fun d B=>d=false∧B=z7) w) :=
 So.eq (r':=(false,z7)) ((mig_step w _ X g 0 z7 h z7_ok (by decide) (by decide)).mono fun _ _ hh=>So.of (r:=migF z7 0) hh rfl) (by kernel_rfl)
theorem c_edge_7{N:Nat→Prop}{X g:Nat}{w:World}(hQ:∀n,w.heap.size≤n→N n)(h:WB N X g z7 w):Calls Tryz.prog 39 #[.pointer (some ⟨X,0,none⟩),.int .i64 ((0:Nat):Int)] w (So N X g (fun d B=>d=false∧B=z7) w) :=
 So.eq (r':=(false,z7)) ((edge_step w _ X g 0 z7 h z7_ok (by decide) (by decide)).mono fun _ _ hh=>So.of (r:=edgeF z7 0) hh rfl) (by kernel_rfl)
theorem c_info_7{N:Nat→Prop}{X g:Nat}{w:World}(hQ:∀n,w.heap.size≤n→N n)(h:WB N X g z7 w):Calls Tryz.prog 40 #[.pointer (some ⟨X,0,none⟩),.int .i64 ((0:Nat):Int)] w (So N X g (fun d B=>d=false∧B=z7) w) :=
 So.eq (r':=(false,z7)) ((inf_step w _ X g 0 z7 h z7_ok (by decide) (by decide) (by unfold TimR TF;exact(by decide +kernel))).mono fun _ _ hh=>So.of (r:=infF z7 0) hh rfl) (by kernel_rfl)
theorem c_trans_7{N:Nat→Prop}{X g:Nat}{w:World}(hQ:∀n,w.heap.size≤n→N n)(h:WB N X g z7 w):Calls Tryz.prog 41 #[.pointer (some ⟨X,0,none⟩),.int .i64 ((0:Nat):Int)] w (So N X g (fun d B=>d=true∧B=z8) w) :=
 So.eq (r':=(true,z8)) ((trans_step w _ X g 0 z7 h z7_ok (by decide) (by decide) (fun n hn=>hn.2) (by decide +kernel)).mono fun _ _ hh=>So.of (r:=trF z7 0) hh rfl) (by kernel_rfl)
theorem c_passage_8{N:Nat→Prop}{X g:Nat}{w:World}(hQ:∀n,w.heap.size≤n→N n)(h:WB N X g z8 w):Calls Tryz.prog 42 #[.pointer (some ⟨X,0,none⟩),.int .i64 ((0:Nat):Int)] w (So N X g (fun d B=>d=false∧B=z8) w) :=
 So.eq (r':=(false,z8)) ((pas_step w _ X g 0 z8 h z8_ok (by decide) (by decide)).mono fun _ _ hh=>So.of (r:=pasF z8 0) hh rfl) (by kernel_rfl)
theorem c_topo_8{N:Nat→Prop}{X g:Nat}{w:World}(hQ:∀n,w.heap.size≤n→N n)(h:WB N X g z8 w):Calls Tryz.prog 43 #[.pointer (some ⟨X,0,none⟩),.int .i64 ((0:Nat):Int)] w (So N X g (fun d B=>d=false∧B=z8) w) :=
 So.eq (r':=(false,z8)) ((top_stepW w N X g 0 z8 h z8_ok (by decide) (by decide) hQ (show TR (z8.hi 2) (z8.hi 3) (z8.hi 4) (z8.hi 5)from by unfold TR;exact(by decide +kernel)) (by decide)).mono fun _ _ hh=>So.ofW (r:=topF z8 0) hh rfl) (by kernel_rfl)
theorem c_tx_8{N:Nat→Prop}{X g:Nat}{w:World}(hQ:∀n,w.heap.size≤n→N n)(h:WB N X g z8 w):Calls Tryz.prog 44 #[.pointer (some ⟨X,0,none⟩),.int .i64 ((0:Nat):Int)] w (So N X g (fun d B=>d=false∧B=z8) w) :=
 So.eq (r':=(false,z8)) ((tx_stepW w N X g 0 z8 h z8_ok (by decide) (by decide) hQ (by decide +kernel) (by decide)).mono fun _ _ hh=>So.ofW (r:=txF z8 0) hh rfl) (by kernel_rfl)
theorem c_sel_8{N:Nat→Prop}{X g:Nat}{w:World}(hQ:∀n,w.heap.size≤n→N n)(h:WB N X g z8 w):Calls Tryz.prog 36 #[.pointer (some ⟨X,0,none⟩)] w (So N X g (fun d B=>d=false∧B=z8) w) :=
 So.eq (r':=(false,z8)) ((sel_step w _ X g z8 h z8_ok (by decide) (by decide) (fun k hk=>by obtain rfl:k=0:=(by have h1:z8.np=1:=rfl;omega);exact(by decide +kernel))).mono fun _ _ hh=>So.of (r:=selF z8) hh rfl) (by kernel_rfl)
theorem c_rx_8{N:Nat→Prop}{X g:Nat}{w:World}(hQ:∀n,w.heap.size≤n→N n)(h:WB N X g z8 w):Calls Tryz.prog 37 #[.pointer (some ⟨X,0,none⟩),.int .i64 ((0:Nat):Int)] w (So N X g (fun d B=>d=false∧B=z8) w) :=
 So.eq (r':=(false,z8)) ((rx_step w _ X g 0 z8 h z8_ok (by decide) (by decide)).mono fun _ _ hh=>So.of (r:=rxF z8 0) hh rfl) (by kernel_rfl)
theorem c_mig_8{N:Nat→Prop}{X g:Nat}{w:World}(hQ:∀n,w.heap.size≤n→N n)(h:WB N X g z8 w):Calls Tryz.prog 38 #[.pointer (some ⟨X,0,none⟩),.int .i64 ((0:Nat):Int)] w (So N X g (fun d B=>d=false∧B=z8) w) :=
 So.eq (r':=(false,z8)) ((mig_step w _ X g 0 z8 h z8_ok (by decide) (by decide)).mono fun _ _ hh=>So.of (r:=migF z8 0) hh rfl) (by kernel_rfl)
theorem c_edge_8{N:Nat→Prop}{X g:Nat}{w:World}(hQ:∀n,w.heap.size≤n→N n)(h:WB N X g z8 w):Calls Tryz.prog 39 #[.pointer (some ⟨X,0,none⟩),.int .i64 ((0:Nat):Int)] w (So N X g (fun d B=>d=false∧B=z8) w) :=
 So.eq (r':=(false,z8)) ((edge_step w _ X g 0 z8 h z8_ok (by decide) (by decide)).mono fun _ _ hh=>So.of (r:=edgeF z8 0) hh rfl) (by kernel_rfl)
theorem c_info_8{N:Nat→Prop}{X g:Nat}{w:World}(hQ:∀n,w.heap.size≤n→N n)(h:WB N X g z8 w):Calls Tryz.prog 40 #[.pointer (some ⟨X,0,none⟩),.int .i64 ((0:Nat):Int)] w (So N X g (fun d B=>d=false∧B=z8) w) :=
 So.eq (r':=(false,z8)) ((inf_step w _ X g 0 z8 h z8_ok (by decide) (by decide) (by unfold TimR TF;exact(by decide +kernel))).mono fun _ _ hh=>So.of (r:=infF z8 0) hh rfl) (by kernel_rfl)
theorem c_trans_8{N:Nat→Prop}{X g:Nat}{w:World}(hQ:∀n,w.heap.size≤n→N n)(h:WB N X g z8 w):Calls Tryz.prog 41 #[.pointer (some ⟨X,0,none⟩),.int .i64 ((0:Nat):Int)] w (So N X g (fun d B=>d=true∧B=z9) w) :=
 So.eq (r':=(true,z9)) ((trans_step w _ X g 0 z8 h z8_ok (by decide) (by decide) (fun n hn=>hn.2) (by decide +kernel)).mono fun _ _ hh=>So.of (r:=trF z8 0) hh rfl) (by kernel_rfl)
theorem c_passage_9{N:Nat→Prop}{X g:Nat}{w:World}(hQ:∀n,w.heap.size≤n→N n)(h:WB N X g z9 w):Calls Tryz.prog 42 #[.pointer (some ⟨X,0,none⟩),.int .i64 ((0:Nat):Int)] w (So N X g (fun d B=>d=false∧B=z9) w) :=
 So.eq (r':=(false,z9)) ((pas_step w _ X g 0 z9 h z9_ok (by decide) (by decide)).mono fun _ _ hh=>So.of (r:=pasF z9 0) hh rfl) (by kernel_rfl)
theorem c_topo_9{N:Nat→Prop}{X g:Nat}{w:World}(hQ:∀n,w.heap.size≤n→N n)(h:WB N X g z9 w):Calls Tryz.prog 43 #[.pointer (some ⟨X,0,none⟩),.int .i64 ((0:Nat):Int)] w (So N X g (fun d B=>d=false∧B=z9) w) :=
 So.eq (r':=(false,z9)) ((top_stepW w N X g 0 z9 h z9_ok (by decide) (by decide) hQ (show TR (z9.hi 2) (z9.hi 3) (z9.hi 4) (z9.hi 5)from by unfold TR;exact(by decide +kernel)) (by decide)).mono fun _ _ hh=>So.ofW (r:=topF z9 0) hh rfl) (by kernel_rfl)
theorem c_tx_9{N:Nat→Prop}{X g:Nat}{w:World}(hQ:∀n,w.heap.size≤n→N n)(h:WB N X g z9 w):Calls Tryz.prog 44 #[.pointer (some ⟨X,0,none⟩),.int .i64 ((0:Nat):Int)] w (So N X g (fun d B=>d=false∧B=z9) w) :=
 So.eq (r':=(false,z9)) ((tx_stepW w N X g 0 z9 h z9_ok (by decide) (by decide) hQ (by decide +kernel) (by decide)).mono fun _ _ hh=>So.ofW (r:=txF z9 0) hh rfl) (by kernel_rfl)
theorem c_sel_9{N:Nat→Prop}{X g:Nat}{w:World}(hQ:∀n,w.heap.size≤n→N n)(h:WB N X g z9 w):Calls Tryz.prog 36 #[.pointer (some ⟨X,0,none⟩)] w (So N X g (fun d B=>d=false∧B=z9) w) :=
 So.eq (r':=(false,z9)) ((sel_step w _ X g z9 h z9_ok (by decide) (by decide) (fun k hk=>by obtain rfl:k=0:=(by have h1:z9.np=1:=rfl;omega);exact(by decide +kernel))).mono fun _ _ hh=>So.of (r:=selF z9) hh rfl) (by kernel_rfl)
theorem c_rx_9{N:Nat→Prop}{X g:Nat}{w:World}(hQ:∀n,w.heap.size≤n→N n)(h:WB N X g z9 w):Calls Tryz.prog 37 #[.pointer (some ⟨X,0,none⟩),.int .i64 ((0:Nat):Int)] w (So N X g (fun d B=>d=false∧B=z9) w) :=
 So.eq (r':=(false,z9)) ((rx_step w _ X g 0 z9 h z9_ok (by decide) (by decide)).mono fun _ _ hh=>So.of (r:=rxF z9 0) hh rfl) (by kernel_rfl)
theorem c_mig_9{N:Nat→Prop}{X g:Nat}{w:World}(hQ:∀n,w.heap.size≤n→N n)(h:WB N X g z9 w):Calls Tryz.prog 38 #[.pointer (some ⟨X,0,none⟩),.int .i64 ((0:Nat):Int)] w (So N X g (fun d B=>d=false∧B=z9) w) :=
 So.eq (r':=(false,z9)) ((mig_step w _ X g 0 z9 h z9_ok (by decide) (by decide)).mono fun _ _ hh=>So.of (r:=migF z9 0) hh rfl) (by kernel_rfl)
theorem c_edge_9{N:Nat→Prop}{X g:Nat}{w:World}(hQ:∀n,w.heap.size≤n→N n)(h:WB N X g z9 w):Calls Tryz.prog 39 #[.pointer (some ⟨X,0,none⟩),.int .i64 ((0:Nat):Int)] w (So N X g (fun d B=>d=false∧B=z9) w) :=
 So.eq (r':=(false,z9)) ((edge_step w _ X g 0 z9 h z9_ok (by decide) (by decide)).mono fun _ _ hh=>So.of (r:=edgeF z9 0) hh rfl) (by kernel_rfl)
theorem c_info_9{N:Nat→Prop}{X g:Nat}{w:World}(hQ:∀n,w.heap.size≤n→N n)(h:WB N X g z9 w):Calls Tryz.prog 40 #[.pointer (some ⟨X,0,none⟩),.int .i64 ((0:Nat):Int)] w (So N X g (fun d B=>d=false∧B=z9) w) :=
 So.eq (r':=(false,z9)) ((inf_step w _ X g 0 z9 h z9_ok (by decide) (by decide) (by unfold TimR TF;exact(by decide +kernel))).mono fun _ _ hh=>So.of (r:=infF z9 0) hh rfl) (by kernel_rfl)
theorem c_trans_9{N:Nat→Prop}{X g:Nat}{w:World}(hQ:∀n,w.heap.size≤n→N n)(h:WB N X g z9 w):Calls Tryz.prog 41 #[.pointer (some ⟨X,0,none⟩),.int .i64 ((0:Nat):Int)] w (So N X g (fun d B=>d=true∧B=z10) w) :=
 So.eq (r':=(true,z10)) ((trans_step w _ X g 0 z9 h z9_ok (by decide) (by decide) (fun n hn=>hn.2) (by decide +kernel)).mono fun _ _ hh=>So.of (r:=trF z9 0) hh rfl) (by kernel_rfl)
theorem c_passage_10{N:Nat→Prop}{X g:Nat}{w:World}(hQ:∀n,w.heap.size≤n→N n)(h:WB N X g z10 w):Calls Tryz.prog 42 #[.pointer (some ⟨X,0,none⟩),.int .i64 ((0:Nat):Int)] w (So N X g (fun d B=>d=true∧B=z11) w) :=
 So.eq (r':=(true,z11)) ((pas_step w _ X g 0 z10 h z10_ok (by decide) (by decide)).mono fun _ _ hh=>So.of (r:=pasF z10 0) hh rfl) (by kernel_rfl)
theorem c_topo_11{N:Nat→Prop}{X g:Nat}{w:World}(hQ:∀n,w.heap.size≤n→N n)(h:WB N X g z11 w):Calls Tryz.prog 43 #[.pointer (some ⟨X,0,none⟩),.int .i64 ((0:Nat):Int)] w (So N X g (fun d B=>d=true∧B=z12) w) :=
 So.eq (r':=(true,z12)) ((top_stepW w N X g 0 z11 h z11_ok (by decide) (by decide) hQ (show TR (z11.hi 2) (z11.hi 3) (z11.hi 4) (z11.hi 5)from by unfold TR;exact(by decide +kernel)) (by decide)).mono fun _ _ hh=>So.ofW (r:=topF z11 0) hh rfl) (by kernel_rfl)
theorem c_tx_12{N:Nat→Prop}{X g:Nat}{w:World}(hQ:∀n,w.heap.size≤n→N n)(h:WB N X g z12 w):Calls Tryz.prog 44 #[.pointer (some ⟨X,0,none⟩),.int .i64 ((0:Nat):Int)] w (So N X g (fun d B=>d=false∧B=z12) w) :=
 So.eq (r':=(false,z12)) ((tx_stepW w N X g 0 z12 h z12_ok (by decide) (by decide) hQ (by decide +kernel) (by decide)).mono fun _ _ hh=>So.ofW (r:=txF z12 0) hh rfl) (by kernel_rfl)
theorem c_sel_12{N:Nat→Prop}{X g:Nat}{w:World}(hQ:∀n,w.heap.size≤n→N n)(h:WB N X g z12 w):Calls Tryz.prog 36 #[.pointer (some ⟨X,0,none⟩)] w (So N X g (fun d B=>d=false∧B=z12) w) :=
 So.eq (r':=(false,z12)) ((sel_step w _ X g z12 h z12_ok (by decide) (by decide) (fun k hk=>by obtain rfl:k=0:=(by have h1:z12.np=1:=rfl;omega);exact(by decide +kernel))).mono fun _ _ hh=>So.of (r:=selF z12) hh rfl) (by kernel_rfl)
theorem c_rx_12{N:Nat→Prop}{X g:Nat}{w:World}(hQ:∀n,w.heap.size≤n→N n)(h:WB N X g z12 w):Calls Tryz.prog 37 #[.pointer (some ⟨X,0,none⟩),.int .i64 ((0:Nat):Int)] w (So N X g (fun d B=>d=false∧B=z12) w) :=
 So.eq (r':=(false,z12)) ((rx_step w _ X g 0 z12 h z12_ok (by decide) (by decide)).mono fun _ _ hh=>So.of (r:=rxF z12 0) hh rfl) (by kernel_rfl)
theorem c_mig_12{N:Nat→Prop}{X g:Nat}{w:World}(hQ:∀n,w.heap.size≤n→N n)(h:WB N X g z12 w):Calls Tryz.prog 38 #[.pointer (some ⟨X,0,none⟩),.int .i64 ((0:Nat):Int)] w (So N X g (fun d B=>d=false∧B=z12) w) :=
 So.eq (r':=(false,z12)) ((mig_step w _ X g 0 z12 h z12_ok (by decide) (by decide)).mono fun _ _ hh=>So.of (r:=migF z12 0) hh rfl) (by kernel_rfl)
theorem c_edge_12{N:Nat→Prop}{X g:Nat}{w:World}(hQ:∀n,w.heap.size≤n→N n)(h:WB N X g z12 w):Calls Tryz.prog 39 #[.pointer (some ⟨X,0,none⟩),.int .i64 ((0:Nat):Int)] w (So N X g (fun d B=>d=false∧B=z12) w) :=
 So.eq (r':=(false,z12)) ((edge_step w _ X g 0 z12 h z12_ok (by decide) (by decide)).mono fun _ _ hh=>So.of (r:=edgeF z12 0) hh rfl) (by kernel_rfl)
theorem c_info_12{N:Nat→Prop}{X g:Nat}{w:World}(hQ:∀n,w.heap.size≤n→N n)(h:WB N X g z12 w):Calls Tryz.prog 40 #[.pointer (some ⟨X,0,none⟩),.int .i64 ((0:Nat):Int)] w (So N X g (fun d B=>d=false∧B=z12) w) :=
 So.eq (r':=(false,z12)) ((inf_step w _ X g 0 z12 h z12_ok (by decide) (by decide) (by unfold TimR TF;exact(by decide +kernel))).mono fun _ _ hh=>So.of (r:=infF z12 0) hh rfl) (by kernel_rfl)
theorem c_trans_12{N:Nat→Prop}{X g:Nat}{w:World}(hQ:∀n,w.heap.size≤n→N n)(h:WB N X g z12 w):Calls Tryz.prog 41 #[.pointer (some ⟨X,0,none⟩),.int .i64 ((0:Nat):Int)] w (So N X g (fun d B=>d=true∧B=z13) w) :=
 So.eq (r':=(true,z13)) ((trans_step w _ X g 0 z12 h z12_ok (by decide) (by decide) (fun n hn=>hn.2) (by decide +kernel)).mono fun _ _ hh=>So.of (r:=trF z12 0) hh rfl) (by kernel_rfl)
theorem c_passage_13{N:Nat→Prop}{X g:Nat}{w:World}(hQ:∀n,w.heap.size≤n→N n)(h:WB N X g z13 w):Calls Tryz.prog 42 #[.pointer (some ⟨X,0,none⟩),.int .i64 ((0:Nat):Int)] w (So N X g (fun d B=>d=true∧B=z14) w) :=
 So.eq (r':=(true,z14)) ((pas_step w _ X g 0 z13 h z13_ok (by decide) (by decide)).mono fun _ _ hh=>So.of (r:=pasF z13 0) hh rfl) (by kernel_rfl)
theorem c_topo_14{N:Nat→Prop}{X g:Nat}{w:World}(hQ:∀n,w.heap.size≤n→N n)(h:WB N X g z14 w):Calls Tryz.prog 43 #[.pointer (some ⟨X,0,none⟩),.int .i64 ((0:Nat):Int)] w (So N X g (fun d B=>d=false∧B=z14) w) :=
 So.eq (r':=(false,z14)) ((top_stepW w N X g 0 z14 h z14_ok (by decide) (by decide) hQ (show TR (z14.hi 2) (z14.hi 3) (z14.hi 4) (z14.hi 5)from by unfold TR;exact(by decide +kernel)) (by decide)).mono fun _ _ hh=>So.ofW (r:=topF z14 0) hh rfl) (by kernel_rfl)
theorem c_tx_14{N:Nat→Prop}{X g:Nat}{w:World}(hQ:∀n,w.heap.size≤n→N n)(h:WB N X g z14 w):Calls Tryz.prog 44 #[.pointer (some ⟨X,0,none⟩),.int .i64 ((0:Nat):Int)] w (So N X g (fun d B=>d=false∧B=z14) w) :=
 So.eq (r':=(false,z14)) ((tx_stepW w N X g 0 z14 h z14_ok (by decide) (by decide) hQ (by decide +kernel) (by decide)).mono fun _ _ hh=>So.ofW (r:=txF z14 0) hh rfl) (by kernel_rfl)
theorem c_sel_14{N:Nat→Prop}{X g:Nat}{w:World}(hQ:∀n,w.heap.size≤n→N n)(h:WB N X g z14 w):Calls Tryz.prog 36 #[.pointer (some ⟨X,0,none⟩)] w (So N X g (fun d B=>d=false∧B=z14) w) :=
 So.eq (r':=(false,z14)) ((sel_step w _ X g z14 h z14_ok (by decide) (by decide) (fun k hk=>by obtain rfl:k=0:=(by have h1:z14.np=1:=rfl;omega);exact(by decide +kernel))).mono fun _ _ hh=>So.of (r:=selF z14) hh rfl) (by kernel_rfl)
theorem c_rx_14{N:Nat→Prop}{X g:Nat}{w:World}(hQ:∀n,w.heap.size≤n→N n)(h:WB N X g z14 w):Calls Tryz.prog 37 #[.pointer (some ⟨X,0,none⟩),.int .i64 ((0:Nat):Int)] w (So N X g (fun d B=>d=false∧B=z14) w) :=
 So.eq (r':=(false,z14)) ((rx_step w _ X g 0 z14 h z14_ok (by decide) (by decide)).mono fun _ _ hh=>So.of (r:=rxF z14 0) hh rfl) (by kernel_rfl)
theorem c_mig_14{N:Nat→Prop}{X g:Nat}{w:World}(hQ:∀n,w.heap.size≤n→N n)(h:WB N X g z14 w):Calls Tryz.prog 38 #[.pointer (some ⟨X,0,none⟩),.int .i64 ((0:Nat):Int)] w (So N X g (fun d B=>d=false∧B=z14) w) :=
 So.eq (r':=(false,z14)) ((mig_step w _ X g 0 z14 h z14_ok (by decide) (by decide)).mono fun _ _ hh=>So.of (r:=migF z14 0) hh rfl) (by kernel_rfl)
theorem c_edge_14{N:Nat→Prop}{X g:Nat}{w:World}(hQ:∀n,w.heap.size≤n→N n)(h:WB N X g z14 w):Calls Tryz.prog 39 #[.pointer (some ⟨X,0,none⟩),.int .i64 ((0:Nat):Int)] w (So N X g (fun d B=>d=false∧B=z14) w) :=
 So.eq (r':=(false,z14)) ((edge_step w _ X g 0 z14 h z14_ok (by decide) (by decide)).mono fun _ _ hh=>So.of (r:=edgeF z14 0) hh rfl) (by kernel_rfl)
theorem c_info_14{N:Nat→Prop}{X g:Nat}{w:World}(hQ:∀n,w.heap.size≤n→N n)(h:WB N X g z14 w):Calls Tryz.prog 40 #[.pointer (some ⟨X,0,none⟩),.int .i64 ((0:Nat):Int)] w (So N X g (fun d B=>d=false∧B=z14) w) :=
 So.eq (r':=(false,z14)) ((inf_step w _ X g 0 z14 h z14_ok (by decide) (by decide) (by unfold TimR TF;exact(by decide +kernel))).mono fun _ _ hh=>So.of (r:=infF z14 0) hh rfl) (by kernel_rfl)
theorem c_trans_14{N:Nat→Prop}{X g:Nat}{w:World}(hQ:∀n,w.heap.size≤n→N n)(h:WB N X g z14 w):Calls Tryz.prog 41 #[.pointer (some ⟨X,0,none⟩),.int .i64 ((0:Nat):Int)] w (So N X g (fun d B=>d=false∧B=z14) w) :=
 So.eq (r':=(false,z14)) ((trans_step w _ X g 0 z14 h z14_ok (by decide) (by decide) (fun n hn=>hn.2) (by decide +kernel)).mono fun _ _ hh=>So.of (r:=trF z14 0) hh rfl) (by kernel_rfl)
theorem c_passage_14{N:Nat→Prop}{X g:Nat}{w:World}(hQ:∀n,w.heap.size≤n→N n)(h:WB N X g z14 w):Calls Tryz.prog 42 #[.pointer (some ⟨X,0,none⟩),.int .i64 ((0:Nat):Int)] w (So N X g (fun d B=>d=false∧B=z14) w) :=
 So.eq (r':=(false,z14)) ((pas_step w _ X g 0 z14 h z14_ok (by decide) (by decide)).mono fun _ _ hh=>So.of (r:=pasF z14 0) hh rfl) (by kernel_rfl)
def cnt(ds:Nat→Bool):Nat→Nat
 | 0=>0
 | n+1=>cnt ds n+(ds n).toNat
theorem rel_c{N:Nat→Prop}{X g:Nat}(bs:Nat→Br)(ds:Nat→Bool)(h0:(bs 0).ok∧(bs 0).np=1)(h1:(bs 1).ok∧(bs 1).np=1)(h9:(bs 9).ok∧(bs 9).np=1)(hsel:∀w,(∀n,w.heap.size≤n→N n)→WB N X g (bs 0) w→Calls Tryz.prog 36 #[.pointer (some ⟨X,0,none⟩)] w (So N X g (fun d B=>d=ds 0∧B=bs 1) w))(hst:∀j,j<8→∀w,(∀n,w.heap.size≤n→N n)→WB N X g (bs (j+1)) w→Calls Tryz.prog (stF j) #[.pointer (some ⟨X,0,none⟩),.int .i64 ((0:Nat):Int)] w (So N X g (fun d B=>d=ds (j+1)∧B=bs (j+2)) w)):
    Rel N X g 1 (fun B=>B=bs 0) (fun k j c B=>(k=0∧j≤8∧B=bs (j+1)∧c=cnt ds (j+1))∨(k=1∧j=0∧B=bs 9∧c=cnt ds 9)):=by
 refine⟨fun B h=>by subst h;exact h0,fun B w hQ hS h=>?_,fun k j c B w hQ hk hj hJ h=>?_,fun k c B hk hJ=>?_,fun k c B hJ=>?_⟩
 ·subst hS
  refine(hsel w hQ h).mono ?_
  rintro e w' ⟨d,B,he,hB,hm,rfl,rfl⟩
  exact⟨_,_,he,hB,hm,.inl ⟨rfl,by omega,rfl,by simp[cnt]⟩⟩
 ·rcases hJ with ⟨rfl,hj8,rfl,rfl⟩|⟨rfl,-⟩
  ·refine(hst j hj w hQ h).mono ?_
   rintro e w' ⟨d,B,he,hB,hm,rfl,rfl⟩
   exact⟨_,_,he,hB,hm,.inl ⟨rfl,by omega,rfl,rfl⟩⟩
  ·omega
 ·rcases hJ with ⟨rfl,-,rfl,rfl⟩|⟨rfl,h,-⟩
  ·exact .inr ⟨rfl,rfl,rfl,rfl⟩
  ·omega
 ·rcases hJ with ⟨-,-,rfl,-⟩|⟨-,-,rfl,-⟩
  ·exact h1
  ·exact h9
def bs0:Nat→Br
 | 0=>z0
 | 1=>z1
 | 2=>z1
 | 3=>z1
 | 4=>z1
 | 5=>z2
 | 6=>z2
 | 7=>z2
 | 8=>z3
 | _=>z3
def ds0:Nat→Bool
 | 0=>true
 | 1=>false
 | 2=>false
 | 3=>false
 | 4=>true
 | 5=>false
 | 6=>false
 | 7=>true
 | _=>false
theorem round_0{N:Nat→Prop}{X g:Nat}{w:World}(hQ:∀n,w.heap.size≤n→N n)(h:WB N X g z0 w):Calls Tryz.prog 26 #[.pointer (some ⟨X,0,none⟩)] w fun e w'=>e=.returned (.int .i64 ((3:Nat):Int))∧WB N X g z3 w'∧Mut (fun n=>N n) w w':=by
 refine(round_rel (rel_c bs0 ds0 ⟨z0_ok,rfl⟩ ⟨z1_ok,rfl⟩ ⟨z3_ok,rfl⟩ (fun w hQ h=>c_sel_0 hQ h) (fun j hj w hQ h=>?_)) (by decide) (by decide) z0 w hQ h rfl).mono ?_
 ·rcases(by omega:j=0∨j=1∨j=2∨j=3∨j=4∨j=5∨j=6∨j=7)with rfl|rfl|rfl|rfl|rfl|rfl|rfl|rfl
  ·exact c_rx_1 hQ h
  ·exact c_mig_1 hQ h
  ·exact c_edge_1 hQ h
  ·exact c_info_1 hQ h
  ·exact c_trans_2 hQ h
  ·exact c_passage_2 hQ h
  ·exact c_topo_2 hQ h
  ·exact c_tx_3 hQ h
 ·rintro e w' ⟨c,B',hc,he,hB,hm,hJ⟩
  rcases hJ with ⟨h,-⟩|⟨-,-,rfl,rfl⟩
  ·exact absurd h (by decide)
  ·exact⟨he,hB,hm⟩
def bs1:Nat→Br
 | 0=>z3
 | 1=>z4
 | 2=>z4
 | 3=>z4
 | 4=>z4
 | 5=>z5
 | 6=>z6
 | 7=>z6
 | 8=>z6
 | _=>z7
def ds1:Nat→Bool
 | 0=>true
 | 1=>false
 | 2=>false
 | 3=>false
 | 4=>true
 | 5=>true
 | 6=>false
 | 7=>false
 | _=>true
theorem round_1{N:Nat→Prop}{X g:Nat}{w:World}(hQ:∀n,w.heap.size≤n→N n)(h:WB N X g z3 w):Calls Tryz.prog 26 #[.pointer (some ⟨X,0,none⟩)] w fun e w'=>e=.returned (.int .i64 ((4:Nat):Int))∧WB N X g z7 w'∧Mut (fun n=>N n) w w':=by
 refine(round_rel (rel_c bs1 ds1 ⟨z3_ok,rfl⟩ ⟨z4_ok,rfl⟩ ⟨z7_ok,rfl⟩ (fun w hQ h=>c_sel_3 hQ h) (fun j hj w hQ h=>?_)) (by decide) (by decide) z3 w hQ h rfl).mono ?_
 ·rcases(by omega:j=0∨j=1∨j=2∨j=3∨j=4∨j=5∨j=6∨j=7)with rfl|rfl|rfl|rfl|rfl|rfl|rfl|rfl
  ·exact c_rx_4 hQ h
  ·exact c_mig_4 hQ h
  ·exact c_edge_4 hQ h
  ·exact c_info_4 hQ h
  ·exact c_trans_5 hQ h
  ·exact c_passage_6 hQ h
  ·exact c_topo_6 hQ h
  ·exact c_tx_6 hQ h
 ·rintro e w' ⟨c,B',hc,he,hB,hm,hJ⟩
  rcases hJ with ⟨h,-⟩|⟨-,-,rfl,rfl⟩
  ·exact absurd h (by decide)
  ·exact⟨he,hB,hm⟩
def bs2:Nat→Br
 | 0=>z7
 | 1=>z7
 | 2=>z7
 | 3=>z7
 | 4=>z7
 | 5=>z7
 | 6=>z8
 | 7=>z8
 | 8=>z8
 | _=>z8
def ds2:Nat→Bool
 | 0=>false
 | 1=>false
 | 2=>false
 | 3=>false
 | 4=>false
 | 5=>true
 | 6=>false
 | 7=>false
 | _=>false
theorem round_2{N:Nat→Prop}{X g:Nat}{w:World}(hQ:∀n,w.heap.size≤n→N n)(h:WB N X g z7 w):Calls Tryz.prog 26 #[.pointer (some ⟨X,0,none⟩)] w fun e w'=>e=.returned (.int .i64 ((1:Nat):Int))∧WB N X g z8 w'∧Mut (fun n=>N n) w w':=by
 refine(round_rel (rel_c bs2 ds2 ⟨z7_ok,rfl⟩ ⟨z7_ok,rfl⟩ ⟨z8_ok,rfl⟩ (fun w hQ h=>c_sel_7 hQ h) (fun j hj w hQ h=>?_)) (by decide) (by decide) z7 w hQ h rfl).mono ?_
 ·rcases(by omega:j=0∨j=1∨j=2∨j=3∨j=4∨j=5∨j=6∨j=7)with rfl|rfl|rfl|rfl|rfl|rfl|rfl|rfl
  ·exact c_rx_7 hQ h
  ·exact c_mig_7 hQ h
  ·exact c_edge_7 hQ h
  ·exact c_info_7 hQ h
  ·exact c_trans_7 hQ h
  ·exact c_passage_8 hQ h
  ·exact c_topo_8 hQ h
  ·exact c_tx_8 hQ h
 ·rintro e w' ⟨c,B',hc,he,hB,hm,hJ⟩
  rcases hJ with ⟨h,-⟩|⟨-,-,rfl,rfl⟩
  ·exact absurd h (by decide)
  ·exact⟨he,hB,hm⟩
def bs3:Nat→Br
 | 0=>z8
 | 1=>z8
 | 2=>z8
 | 3=>z8
 | 4=>z8
 | 5=>z8
 | 6=>z9
 | 7=>z9
 | 8=>z9
 | _=>z9
def ds3:Nat→Bool
 | 0=>false
 | 1=>false
 | 2=>false
 | 3=>false
 | 4=>false
 | 5=>true
 | 6=>false
 | 7=>false
 | _=>false
theorem round_3{N:Nat→Prop}{X g:Nat}{w:World}(hQ:∀n,w.heap.size≤n→N n)(h:WB N X g z8 w):Calls Tryz.prog 26 #[.pointer (some ⟨X,0,none⟩)] w fun e w'=>e=.returned (.int .i64 ((1:Nat):Int))∧WB N X g z9 w'∧Mut (fun n=>N n) w w':=by
 refine(round_rel (rel_c bs3 ds3 ⟨z8_ok,rfl⟩ ⟨z8_ok,rfl⟩ ⟨z9_ok,rfl⟩ (fun w hQ h=>c_sel_8 hQ h) (fun j hj w hQ h=>?_)) (by decide) (by decide) z8 w hQ h rfl).mono ?_
 ·rcases(by omega:j=0∨j=1∨j=2∨j=3∨j=4∨j=5∨j=6∨j=7)with rfl|rfl|rfl|rfl|rfl|rfl|rfl|rfl
  ·exact c_rx_8 hQ h
  ·exact c_mig_8 hQ h
  ·exact c_edge_8 hQ h
  ·exact c_info_8 hQ h
  ·exact c_trans_8 hQ h
  ·exact c_passage_9 hQ h
  ·exact c_topo_9 hQ h
  ·exact c_tx_9 hQ h
 ·rintro e w' ⟨c,B',hc,he,hB,hm,hJ⟩
  rcases hJ with ⟨h,-⟩|⟨-,-,rfl,rfl⟩
  ·exact absurd h (by decide)
  ·exact⟨he,hB,hm⟩
def bs4:Nat→Br
 | 0=>z9
 | 1=>z9
 | 2=>z9
 | 3=>z9
 | 4=>z9
 | 5=>z9
 | 6=>z10
 | 7=>z11
 | 8=>z12
 | _=>z12
def ds4:Nat→Bool
 | 0=>false
 | 1=>false
 | 2=>false
 | 3=>false
 | 4=>false
 | 5=>true
 | 6=>true
 | 7=>true
 | _=>false
theorem round_4{N:Nat→Prop}{X g:Nat}{w:World}(hQ:∀n,w.heap.size≤n→N n)(h:WB N X g z9 w):Calls Tryz.prog 26 #[.pointer (some ⟨X,0,none⟩)] w fun e w'=>e=.returned (.int .i64 ((3:Nat):Int))∧WB N X g z12 w'∧Mut (fun n=>N n) w w':=by
 refine(round_rel (rel_c bs4 ds4 ⟨z9_ok,rfl⟩ ⟨z9_ok,rfl⟩ ⟨z12_ok,rfl⟩ (fun w hQ h=>c_sel_9 hQ h) (fun j hj w hQ h=>?_)) (by decide) (by decide) z9 w hQ h rfl).mono ?_
 ·rcases(by omega:j=0∨j=1∨j=2∨j=3∨j=4∨j=5∨j=6∨j=7)with rfl|rfl|rfl|rfl|rfl|rfl|rfl|rfl
  ·exact c_rx_9 hQ h
  ·exact c_mig_9 hQ h
  ·exact c_edge_9 hQ h
  ·exact c_info_9 hQ h
  ·exact c_trans_9 hQ h
  ·exact c_passage_10 hQ h
  ·exact c_topo_11 hQ h
  ·exact c_tx_12 hQ h
 ·rintro e w' ⟨c,B',hc,he,hB,hm,hJ⟩
  rcases hJ with ⟨h,-⟩|⟨-,-,rfl,rfl⟩
  ·exact absurd h (by decide)
  ·exact⟨he,hB,hm⟩
def bs5:Nat→Br
 | 0=>z12
 | 1=>z12
 | 2=>z12
 | 3=>z12
 | 4=>z12
 | 5=>z12
 | 6=>z13
 | 7=>z14
 | 8=>z14
 | _=>z14
def ds5:Nat→Bool
 | 0=>false
 | 1=>false
 | 2=>false
 | 3=>false
 | 4=>false
 | 5=>true
 | 6=>true
 | 7=>false
 | _=>false
theorem round_5{N:Nat→Prop}{X g:Nat}{w:World}(hQ:∀n,w.heap.size≤n→N n)(h:WB N X g z12 w):Calls Tryz.prog 26 #[.pointer (some ⟨X,0,none⟩)] w fun e w'=>e=.returned (.int .i64 ((2:Nat):Int))∧WB N X g z14 w'∧Mut (fun n=>N n) w w':=by
 refine(round_rel (rel_c bs5 ds5 ⟨z12_ok,rfl⟩ ⟨z12_ok,rfl⟩ ⟨z14_ok,rfl⟩ (fun w hQ h=>c_sel_12 hQ h) (fun j hj w hQ h=>?_)) (by decide) (by decide) z12 w hQ h rfl).mono ?_
 ·rcases(by omega:j=0∨j=1∨j=2∨j=3∨j=4∨j=5∨j=6∨j=7)with rfl|rfl|rfl|rfl|rfl|rfl|rfl|rfl
  ·exact c_rx_12 hQ h
  ·exact c_mig_12 hQ h
  ·exact c_edge_12 hQ h
  ·exact c_info_12 hQ h
  ·exact c_trans_12 hQ h
  ·exact c_passage_13 hQ h
  ·exact c_topo_14 hQ h
  ·exact c_tx_14 hQ h
 ·rintro e w' ⟨c,B',hc,he,hB,hm,hJ⟩
  rcases hJ with ⟨h,-⟩|⟨-,-,rfl,rfl⟩
  ·exact absurd h (by decide)
  ·exact⟨he,hB,hm⟩
def bs6:Nat→Br
 | 0=>z14
 | 1=>z14
 | 2=>z14
 | 3=>z14
 | 4=>z14
 | 5=>z14
 | 6=>z14
 | 7=>z14
 | 8=>z14
 | _=>z14
def ds6:Nat→Bool
 | 0=>false
 | 1=>false
 | 2=>false
 | 3=>false
 | 4=>false
 | 5=>false
 | 6=>false
 | 7=>false
 | _=>false
theorem round_6{N:Nat→Prop}{X g:Nat}{w:World}(hQ:∀n,w.heap.size≤n→N n)(h:WB N X g z14 w):Calls Tryz.prog 26 #[.pointer (some ⟨X,0,none⟩)] w fun e w'=>e=.returned (.int .i64 ((0:Nat):Int))∧WB N X g z14 w'∧Mut (fun n=>N n) w w':=by
 refine(round_rel (rel_c bs6 ds6 ⟨z14_ok,rfl⟩ ⟨z14_ok,rfl⟩ ⟨z14_ok,rfl⟩ (fun w hQ h=>c_sel_14 hQ h) (fun j hj w hQ h=>?_)) (by decide) (by decide) z14 w hQ h rfl).mono ?_
 ·rcases(by omega:j=0∨j=1∨j=2∨j=3∨j=4∨j=5∨j=6∨j=7)with rfl|rfl|rfl|rfl|rfl|rfl|rfl|rfl
  ·exact c_rx_14 hQ h
  ·exact c_mig_14 hQ h
  ·exact c_edge_14 hQ h
  ·exact c_info_14 hQ h
  ·exact c_trans_14 hQ h
  ·exact c_passage_14 hQ h
  ·exact c_topo_14 hQ h
  ·exact c_tx_14 hQ h
 ·rintro e w' ⟨c,B',hc,he,hB,hm,hJ⟩
  rcases hJ with ⟨h,-⟩|⟨-,-,rfl,rfl⟩
  ·exact absurd h (by decide)
  ·exact⟨he,hB,hm⟩
def zs:Nat→Br
 | 0=>z0
 | 1=>z3
 | 2=>z7
 | 3=>z8
 | 4=>z9
 | 5=>z12
 | 6=>z14
 | _=>z14
theorem run_1{N:Nat→Prop}{X g:Nat}{w:World}(hQ:∀n,w.heap.size≤n→N n)(h:WB N X g z0 w):Calls Tryz.prog 17 #[.pointer (some ⟨X,0,none⟩)] w fun e w'=>∃k:Nat,e=.returned (.tuple #[.int .i64 (k:Int),.bool true])∧WB N X g z14 w'∧Mut (fun n=>N n) w w':=by
 refine(run_rel (n:=1) (fun r B=>r≤6∧B=zs r) (fun B=>B=z14) w hQ z0 h ⟨by omega,rfl⟩ (fun r C w hQ hr hS hw=>?_)).mono ?_
 ·obtain ⟨hr6,rfl⟩:=hS
  rcases(by omega:r=0∨r=1∨r=2∨r=3∨r=4∨r=5∨r=6)with rfl|rfl|rfl|rfl|rfl|rfl|rfl
  ·refine(round_0 hQ hw).mono ?_
   rintro e w' ⟨he,hB,hm⟩
   exact⟨3,_,by decide,he,hB,hm,(fun h=>absurd h (by decide)),(fun _=>⟨by decide,rfl⟩)⟩
  ·refine(round_1 hQ hw).mono ?_
   rintro e w' ⟨he,hB,hm⟩
   exact⟨4,_,by decide,he,hB,hm,(fun h=>absurd h (by decide)),(fun _=>⟨by decide,rfl⟩)⟩
  ·refine(round_2 hQ hw).mono ?_
   rintro e w' ⟨he,hB,hm⟩
   exact⟨1,_,by decide,he,hB,hm,(fun h=>absurd h (by decide)),(fun _=>⟨by decide,rfl⟩)⟩
  ·refine(round_3 hQ hw).mono ?_
   rintro e w' ⟨he,hB,hm⟩
   exact⟨1,_,by decide,he,hB,hm,(fun h=>absurd h (by decide)),(fun _=>⟨by decide,rfl⟩)⟩
  ·refine(round_4 hQ hw).mono ?_
   rintro e w' ⟨he,hB,hm⟩
   exact⟨3,_,by decide,he,hB,hm,(fun h=>absurd h (by decide)),(fun _=>⟨by decide,rfl⟩)⟩
  ·refine(round_5 hQ hw).mono ?_
   rintro e w' ⟨he,hB,hm⟩
   exact⟨2,_,by decide,he,hB,hm,(fun h=>absurd h (by decide)),(fun _=>⟨by decide,rfl⟩)⟩
  ·refine(round_6 hQ hw).mono ?_
   rintro e w' ⟨he,hB,hm⟩
   exact⟨0,_,by decide,he,hB,hm,(fun _=>rfl),(fun h=>absurd rfl h)⟩
 ·rintro e w' ⟨k,d,B',he,hB,hm,h1,h2⟩
  cases d
  ·exact absurd (h2 rfl).1 (by decide)
  ·obtain rfl:=h1 rfl
   exact⟨k,he,hB,hm⟩
theorem none_asked(w:World)(X:Nat){a17:Option Addr}{c17:Nat}(h17:w.cell? ⟨X,17,none⟩=some (.slice a17 0 c17)):Calls Tryz.prog 47 #[.pointer (some ⟨X,0,none⟩)] w fun e w'=>e=.returned (.bool false)∧w=w':=by
 go_enter Tryz.func47,Tryz.ntmps47
 go_wp2_with fail
 refine wp_loop_rounds 1 ?_
 rw[rounds_succ]
 go_wp2_with fail
 go_ret
 exact⟨rfl,rfl⟩
theorem none_step(w:World)(X:Nat){a17:Option Addr}{c17:Nat}(h17:w.cell? ⟨X,17,none⟩=some (.slice a17 0 c17)):Calls Tryz.prog 36 #[.pointer (some ⟨X,0,none⟩)] w fun e w'=>e=.returned (.bool false)∧w=w':=by
 go_enter Tryz.func36,Tryz.ntmps36
 go_wp2_with fail
 refine(none_asked w X h17).mono ?_
 rintro e w' ⟨rfl,rfl⟩
 go_wp2_with fail
 go_ret
 exact⟨rfl,rfl⟩
theorem none_round(w:World)(X:Nat){a17:Option Addr}{c17:Nat}(h17:w.cell? ⟨X,17,none⟩=some (.slice a17 0 c17)):Calls Tryz.prog 26 #[.pointer (some ⟨X,0,none⟩)] w fun e w'=>e=.returned (.int .i64 0)∧w=w':=by
 go_enter Tryz.func26,Tryz.ntmps26
 go_wp2_with fail
 refine(none_step w X h17).mono ?_
 rintro e w' ⟨rfl,rfl⟩
 go_wp2_with fail
 refine wp_loop_rounds 1 ?_
 rw[rounds_succ]
 go_wp2_with fail
 go_ret
 exact⟨rfl,rfl⟩
theorem none_run(w:World)(X:Nat){a17:Option Addr}{c17:Nat}(h17:w.cell? ⟨X,17,none⟩=some (.slice a17 0 c17)):Calls Tryz.prog 17 #[.pointer (some ⟨X,0,none⟩)] w fun e w'=>e=.returned (.tuple #[.int .i64 0,.bool true])∧w=w':=by
 go_enter Tryz.func17,Tryz.ntmps17
 go_wp2_with fail
 refine wp_loop_rounds 1 ?_
 rw[rounds_succ]
 go_wp2_with fail
 refine(none_round w X h17).mono ?_
 rintro e w' ⟨rfl,rfl⟩
 go_wp2_with fail
 go_ret2
 exact⟨rfl,rfl⟩
def hdA(id:Int)(rst:Bool)(ta mx hl dl hold:Int):List Value:=[.int .u64 id,.bool rst,.int .i64 ta,.int .i64 mx,.int .i64 hl,.int .i64 dl,.int .i64 hold,.int .u64 id,.int .u32 0,.int .u64 id,.int .u16 0,.int .u16 0,.int .i64 (-1),.int .i64 ta,.int .i64 mx,.int .i64 hl,.int .i64 dl]
theorem hdA_ok{id ta mx hl dl hold:Int}{rst:Bool}(hi:(Lit.int .u64 id).wf=true)(ha:(Lit.int .i64 ta).wf=true)(hm:(Lit.int .i64 mx).wf=true)(hh:(Lit.int .i64 hl).wf=true)(hd:(Lit.int .i64 dl).wf=true)(ho:(Lit.int .i64 hold).wf=true):Typed HL (hdA id rst ta mx hl dl hold):=by
 rw[HL_lit]
 exact typed_all ⟨⟨_,rfl,hi⟩,⟨_,rfl⟩,⟨_,rfl,ha⟩,⟨_,rfl,hm⟩,⟨_,rfl,hh⟩,⟨_,rfl,hd⟩,⟨_,rfl,ho⟩,⟨_,rfl,hi⟩,⟨_,rfl,rfl⟩,⟨_,rfl,hi⟩,⟨_,rfl,rfl⟩,⟨_,rfl,rfl⟩,⟨_,rfl,rfl⟩,⟨_,rfl,ha⟩,⟨_,rfl,hm⟩,⟨_,rfl,hh⟩,⟨_,rfl,hd⟩,trivial⟩
def newA(id:Int)(rst:Bool)(ta mx hl dl hold:Int)(P:List Pt):Br:=⟨hdA id rst ta mx hl dl hold,P.length,P.flatMap (pL rst mx hl dl),0,[],0,[]⟩
theorem newA_cell{id ta mx hl dl hold:Int}{rst:Bool}{P:List Pt}{k j:Nat}{x:Value}(hk:k<P.length)(hx:(pL rst mx hl dl (P.getD k default))[j]?=some x):(newA id rst ta mx hl dl hold P).ps[k*89+j]?=some x :=
 flat_at (pL rst mx hl dl) 89 (pL_len rst mx hl dl) default P k j x hk hx
theorem newA_ok{id ta mx hl dl hold:Int}{rst:Bool}{P:List Pt}(hi:(Lit.int .u64 id).wf=true)(ha:(Lit.int .i64 ta).wf=true)(hm:(Lit.int .i64 mx).wf=true)(hh:(Lit.int .i64 hl).wf=true)(hd:(Lit.int .i64 dl).wf=true)(ho:(Lit.int .i64 hold).wf=true)(hP:∀p∈P,PtR p):(newA id rst ta mx hl dl hold P).ok:=by
 refine⟨hdA_ok hi ha hm hh hd ho,rowTyped_iff.2 ⟨?_,fun i hi j c hc=>?_⟩,⟨rfl,fun i hi=>by exact absurd hi (Nat.not_lt_zero _)⟩,⟨rfl,fun i hi=>by exact absurd hi (Nat.not_lt_zero _)⟩⟩
 ·show (P.flatMap (pL rst mx hl dl)).length=P.length*PL.length
  rw[List.length_flatMap,show PL.length=89 from rfl]
  have:P.map (fun p=>(pL rst mx hl dl p).length)=List.replicate P.length 89:=by
   rw[List.eq_replicate_iff]
   exact⟨by simp,fun b hb=>by obtain⟨p,_,rfl⟩:=List.mem_map.1 hb;rfl⟩
  rw[this,List.sum_replicate_nat]
 ·have hk:i<P.length:=hi
  have hp:=hP (P.getD i default) (by rw[List.getD_eq_getElem?_getD,List.getElem?_eq_getElem hk];exact List.getElem_mem hk)
  have ht:Typed PL (pL rst mx hl dl (P.getD i default)):=portL_ok (wfu16 hp.1) (wfu32 hp.2) hm hh hd (by split<;>rfl)
  obtain⟨v,hv,hcv⟩:=ht.2 j c hc
  exact⟨v,newA_cell hk hv,hcv⟩
def BrZ:Array Value:=#[.int .u64 0,.bool false,.int .i64 0,.int .i64 0,.int .i64 0,.int .i64 0,.int .i64 0,.int .u64 0,.int .u32 0,.int .u64 0,.int .u16 0,.int .u16 0,.int .i64 0,.int .i64 0,.int .i64 0,.int .i64 0,.int .i64 0,.slice none 0 0,.slice none 0 0,.slice none 0 0]
def NewIs(w w':World)(c:Array Value)(ok:Bool)(B:Br):Prop:=(ok=true∧∃u,c=(B.hd++[u,.slice none 0 0,.slice none 0 0]).toArray∧w'.ownsRow w.heap.size 60 89 u B.np B.ps)∨(ok=false∧c=BrZ)
theorem own_base{w:World}{a b:Nat}{e:TypeId}{m n:Nat}{v:Value}{xs:List Value}(h:w.ownsRow b e m v n xs)(hab:a≤b):w.ownsRow a e m v n xs:=by
 refine⟨h.1,?_⟩
 rcases h.2 with hn|⟨g,cap,cur,rfl,hb,rest⟩
 ·exact .inl hn
 ·exact .inr ⟨g,cap,cur,rfl,Nat.le_trans hab hb,rest⟩
end Go.Proofs.YtpanapepcbbagaaGreat
