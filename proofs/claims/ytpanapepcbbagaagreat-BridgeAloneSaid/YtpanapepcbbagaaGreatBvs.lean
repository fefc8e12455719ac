/- Part 19 of what BridgeRests stands on. No statement is proved here. -/
import Derived.Maps.Own
import Derived.Maps.Views
import Derived.Deep.QuietTactic
import Derived.WalkMore
import Derived.ScopeJumps
import Derived.Test.YtpanapepcbbagaaGreatBvh
import Derived.Test.YtpanapepcbbagaaGreatBvr
set_option linter.unusedVariables false
set_option linter.unusedSimpArgs false
set_option maxRecDepth 100000
set_option maxHeartbeats 8000000
namespace Go.Proofs.YtpanapepcbbagaaGreat
open Go.RowKit Go.BigFrame Go.WideShapes Go.ChangeShapes Go.Deep
def bF(B:Br)(k:Nat):Br:=if B.gi k 13=0 then if B.gb k 45=true then((B.setp k 13 (.int .i64 (B.hi 4+1))).setp k 31 (.bool true))else(B.setp k 13 (.int .i64 (B.hi 3+B.hi 5)))else B
def dH(B:Br)(k:Nat):Br:=((B.setp k 39 (.bool false)).setp k 41 (.bool false)).setp k 48 (.bool (B.gb k 48 || (B.gi k 87 == 4)))
def dM(B:Br)(k:Nat):Br:=kL (dH B k) k B.np
def dR(B:Br)(k:Nat):Br:=(((((B.setp k 39 (.bool false)).setp k 41 (.bool false)).setp k 40 (.bool false)).setp k 49 (.bool false)).setp k 21 (.int .i64 1))
def gG(B:Br)(k:Nat):Br:=((bF B k).setp k 25 (.bool true)).setp k 49 (.bool false)
def pH(B:Br)(k:Nat):Br:=((B.setp k 13 (.int .i64 0)).setp k 40 (.bool false))
theorem cF(B:Br)(k:Nat):(bF B k).np=B.np:=by
 unfold bF
 split
 ·split<;>rfl
 ·rfl
theorem k9(B:Br)(k:Nat):(bF B k).hd=B.hd:=by
 unfold bF
 split
 ·split<;>rfl
 ·rfl
theorem iS{B:Br}(ho:B.ok){k:Nat}(hk:k<B.np)(hT:TR (B.hi 2) (B.hi 3) (B.hi 4) (B.hi 5)):(bF B k).ok:=by
 unfold TR at hT
 unfold bF
 split
 ·split
  ·exact(ho.setI hk 13 .i64 _ rfl (by simp[Lit.wf,IntKind.min,IntKind.max,IntKind.signed,IntKind.bits];omega)).setB (k:=k) hk 31 true rfl
  ·exact ho.setI hk 13 .i64 _ rfl (by simp[Lit.wf,IntKind.min,IntKind.max,IntKind.signed,IntKind.bits];omega)
 ·exact ho
theorem lA{B:Br}(ho:B.ok){k:Nat}(hk:k<B.np):(dH B k).ok:=((ho.setB hk 39 false rfl).setB (k:=k) hk 41 false rfl).setB (k:=k) hk 48 _ rfl
theorem lS(w:World)(F:Nat→Prop)(X g k:Nat)(B:Br)(h:BrG w F X g B)(ho:B.ok)(hk:k<B.np)(hn:B.np<1000)(hT:TR (B.hi 2) (B.hi 3) (B.hi 4) (B.hi 5))(hF:∀n,F n→n<w.heap.size)(b1 b2:Nat):Calls Tryz.prog 129 #[.agg #[.pointer (some ⟨g,k*89,none⟩),.int .i64 (B.hi 2),.int .i64 (B.hi 3),.int .i64 (B.hi 4),.int .i64 (B.hi 5),.func (.func 128) #[] #[.pointer (some ⟨b1,0,none⟩),.pointer (some ⟨b2,0,none⟩)]]] w fun e w'=>e=.returned (.tuple #[])∧BrG w' F X g (dR B k)∧Mut F w w':=by
 obtain⟨hX,hg,hne⟩:=h.lt
 unfold TR at hT
 have p39:=qb h ho hk 39
 have p41:=qb h ho hk 41
 have p40:=qb h ho hk 40
 have p49:=qb h ho hk 49
 have p21:=qi h ho hk 21 rfl
 have hf:=h.frozen
 have H:=hD h
 have HF:=hD hF
 clear h hF
 go_enter Tryz.func129,Tryz.ntmps129
 go_wp2
 go_end0
 exact⟨rfl,(((((H.out.setp (k:=k) (j:=39) hk (by decide) (.bool false)).setp (k:=k) (j:=41) hk (by decide) (.bool false)).setp (k:=k) (j:=40) hk (by decide) (.bool false)).setp (k:=k) (j:=49) hk (by decide) (.bool false)).setp (k:=k) (j:=21) hk (by decide) (.int .i64 1)).alloc _,((((((Mut.refl F w).setCell (p:=⟨g,k*89+39,none⟩) (.inl H.out.F2) (.bool false)).setCell (p:=⟨g,k*89+41,none⟩) (.inl H.out.F2) (.bool false)).setCell (p:=⟨g,k*89+40,none⟩) (.inl H.out.F2) (.bool false)).setCell (p:=⟨g,k*89+49,none⟩) (.inl H.out.F2) (.bool false)).setCell (p:=⟨g,k*89+21,none⟩) (.inl H.out.F2) (.int .i64 1)).alloc _⟩
theorem aG5(w:World)(F:Nat→Prop)(X g k:Nat)(B:Br)(h:BrG w F X g B)(ho:B.ok)(hk:k<B.np)(hn:B.np<1000)(hT:TR (B.hi 2) (B.hi 3) (B.hi 4) (B.hi 5))(hF:∀n,F n→n<w.heap.size)(b1 b2:Nat):Calls Tryz.prog 161 #[.agg #[.pointer (some ⟨g,k*89,none⟩),.int .i64 (B.hi 2),.int .i64 (B.hi 3),.int .i64 (B.hi 4),.int .i64 (B.hi 5),.func (.func 128) #[] #[.pointer (some ⟨b1,0,none⟩),.pointer (some ⟨b2,0,none⟩)]]] w fun e w'=>e=.returned (.tuple #[])∧BrG w' F X g (pH B k)∧Mut F w w':=by
 obtain⟨hX,hg,hne⟩:=h.lt
 unfold TR at hT
 have p13:=qi h ho hk 13 rfl
 have p40:=qb h ho hk 40
 have hf:=h.frozen
 have H:=hD h
 have HF:=hD hF
 clear h hF
 go_enter Tryz.func161,Tryz.ntmps161
 go_wp2
 go_end0
 exact⟨rfl,((H.out.setp (k:=k) (j:=13) hk (by decide) (.int .i64 0)).setp (k:=k) (j:=40) hk (by decide) (.bool false)).alloc _,(((Mut.refl F w).setCell (p:=⟨g,k*89+13,none⟩) (.inl H.out.F2) (.int .i64 0)).setCell (p:=⟨g,k*89+40,none⟩) (.inl H.out.F2) (.bool false)).alloc _⟩
theorem xK(w:World)(F:Nat→Prop)(X g k:Nat)(B:Br)(h:BrG w F X g B)(ho:B.ok)(hk:k<B.np)(hn:B.np<1000)(hT:TR (B.hi 2) (B.hi 3) (B.hi 4) (B.hi 5))(hF:∀n,F n→n<w.heap.size)(b1 b2:Nat)(h13:(B.gi k 13 != 0)=true):Calls Tryz.prog 179 #[.agg #[.pointer (some ⟨g,k*89,none⟩),.int .i64 (B.hi 2),.int .i64 (B.hi 3),.int .i64 (B.hi 4),.int .i64 (B.hi 5),.func (.func 128) #[] #[.pointer (some ⟨b1,0,none⟩),.pointer (some ⟨b2,0,none⟩)]]] w fun e w'=>e=.returned (.tuple #[])∧BrG w' F X g B∧Mut F w w':=by
 obtain⟨hX,hg,hne⟩:=h.lt
 unfold TR at hT
 have p13:=qi h ho hk 13 rfl
 have p45:=qb h ho hk 45
 have p31:=qb h ho hk 31
 have hf:=h.frozen
 have H:=hD h
 have HF:=hD hF
 clear h hF
 go_enter Tryz.func179,Tryz.ntmps179
 go_wp2
 go_end0
 exact⟨rfl,H.out.alloc _,(Mut.refl F w).alloc _⟩
theorem xL(w:World)(F:Nat→Prop)(X g k:Nat)(B:Br)(h:BrG w F X g B)(ho:B.ok)(hk:k<B.np)(hn:B.np<1000)(hT:TR (B.hi 2) (B.hi 3) (B.hi 4) (B.hi 5))(hF:∀n,F n→n<w.heap.size)(b1 b2:Nat)(h13:B.gi k 13=0)(h45:B.gb k 45=true):Calls Tryz.prog 179 #[.agg #[.pointer (some ⟨g,k*89,none⟩),.int .i64 (B.hi 2),.int .i64 (B.hi 3),.int .i64 (B.hi 4),.int .i64 (B.hi 5),.func (.func 128) #[] #[.pointer (some ⟨b1,0,none⟩),.pointer (some ⟨b2,0,none⟩)]]] w fun e w'=>e=.returned (.tuple #[])∧BrG w' F X g ((B.setp k 13 (.int .i64 (B.hi 4+1))).setp k 31 (.bool true))∧Mut F w w':=by
 obtain⟨hX,hg,hne⟩:=h.lt
 unfold TR at hT
 have p13:=qi h ho hk 13 rfl
 have p45:=qb h ho hk 45
 have p31:=qb h ho hk 31
 have hf:=h.frozen
 rw[h13]at p13
 rw[h45]at p45
 clear h13 h45
 have H:=hD h
 have HF:=hD hF
 clear h hF
 go_enter Tryz.func179,Tryz.ntmps179
 go_wp2
 go_end0
 exact⟨rfl,((H.out.setp (k:=k) (j:=13) hk (by decide) (.int .i64 (B.hi 4+1))).setp (k:=k) (j:=31) hk (by decide) (.bool true)).alloc _,(((Mut.refl F w).setCell (p:=⟨g,k*89+13,none⟩) (.inl H.out.F2) (.int .i64 (B.hi 4+1))).setCell (p:=⟨g,k*89+31,none⟩) (.inl H.out.F2) (.bool true)).alloc _⟩
theorem xM(w:World)(F:Nat→Prop)(X g k:Nat)(B:Br)(h:BrG w F X g B)(ho:B.ok)(hk:k<B.np)(hn:B.np<1000)(hT:TR (B.hi 2) (B.hi 3) (B.hi 4) (B.hi 5))(hF:∀n,F n→n<w.heap.size)(b1 b2:Nat)(h13:B.gi k 13=0)(h45:B.gb k 45=false):Calls Tryz.prog 179 #[.agg #[.pointer (some ⟨g,k*89,none⟩),.int .i64 (B.hi 2),.int .i64 (B.hi 3),.int .i64 (B.hi 4),.int .i64 (B.hi 5),.func (.func 128) #[] #[.pointer (some ⟨b1,0,none⟩),.pointer (some ⟨b2,0,none⟩)]]] w fun e w'=>e=.returned (.tuple #[])∧BrG w' F X g (B.setp k 13 (.int .i64 (B.hi 3+B.hi 5)))∧Mut F w w':=by
 obtain⟨hX,hg,hne⟩:=h.lt
 unfold TR at hT
 have p13:=qi h ho hk 13 rfl
 have p45:=qb h ho hk 45
 have p31:=qb h ho hk 31
 have hf:=h.frozen
 rw[h13]at p13
 rw[h45]at p45
 clear h13 h45
 have H:=hD h
 have HF:=hD hF
 clear h hF
 go_enter Tryz.func179,Tryz.ntmps179
 go_wp2
 go_end0
 exact⟨rfl,(H.out.setp (k:=k) (j:=13) hk (by decide) (.int .i64 (B.hi 3+B.hi 5))).alloc _,((Mut.refl F w).setCell (p:=⟨g,k*89+13,none⟩) (.inl H.out.F2) (.int .i64 (B.hi 3+B.hi 5))).alloc _⟩
theorem nI(w:World)(F:Nat→Prop)(X g k:Nat)(B:Br)(h:BrG w F X g B)(ho:B.ok)(hk:k<B.np)(hn:B.np<1000)(hT:TR (B.hi 2) (B.hi 3) (B.hi 4) (B.hi 5))(hF:∀n,F n→n<w.heap.size)(b1 b2:Nat):Calls Tryz.prog 179 #[.agg #[.pointer (some ⟨g,k*89,none⟩),.int .i64 (B.hi 2),.int .i64 (B.hi 3),.int .i64 (B.hi 4),.int .i64 (B.hi 5),.func (.func 128) #[] #[.pointer (some ⟨b1,0,none⟩),.pointer (some ⟨b2,0,none⟩)]]] w fun e w'=>e=.returned (.tuple #[])∧BrG w' F X g (bF B k)∧Mut F w w':=by
 unfold bF
 by_cases h13:B.gi k 13=0
 ·rw [if_pos h13]
  cases h45:B.gb k 45
  ·rw[if_neg (by simp)]
   exact xM w F X g k B h ho hk hn hT hF b1 b2 h13 h45
  ·rw[if_pos rfl]
   exact xL w F X g k B h ho hk hn hT hF b1 b2 h13 h45
 ·rw[if_neg h13]
  exact xK w F X g k B h ho hk hn hT hF b1 b2 (by simpa using h13)
theorem aBW(w:World)(F:Nat→Prop)(X g k:Nat)(B:Br)(h:BrG w F X g B)(ho:B.ok)(hk:k<B.np)(hn:B.np<1000)(hT:TR (B.hi 2) (B.hi 3) (B.hi 4) (B.hi 5))(hF:∀n,F n→n<w.heap.size)(b1 b2:Nat)(c1:w.cell? ⟨b1,0,none⟩=some (.pointer (some ⟨X,0,none⟩)))(c2:w.cell? ⟨b2,0,none⟩=some (.int .i64 k))(f1:¬F b1)(f2:¬F b2)(h48:B.gb k 48=true):Calls Tryz.prog 159 #[.agg #[.pointer (some ⟨g,k*89,none⟩),.int .i64 (B.hi 2),.int .i64 (B.hi 3),.int .i64 (B.hi 4),.int .i64 (B.hi 5),.func (.func 128) #[] #[.pointer (some ⟨b1,0,none⟩),.pointer (some ⟨b2,0,none⟩)]]] w fun e w'=>e=.returned (.tuple #[])∧BrG w' F X g (dM B k)∧Mut F w w':=by
 obtain⟨hX,hg,hne⟩:=h.lt
 unfold TR at hT
 have he:dH B k=(((B.setp k 39 (.bool false)).setp k 41 (.bool false)).setp k 48 (.bool true)):=by
  unfold dH
  rw[show(B.gb k 48 || (B.gi k 87 == 4))=true by rw[h48];rfl]
 have p39:=qb h ho hk 39
 have p41:=qb h ho hk 41
 have p48:=qb h ho hk 48
 have p87:=qi h ho hk 87 rfl
 have hf:=h.frozen
 rw[h48]at p48
 have H:=hD h
 have HF:=hD hF
 have HBc:=hD (show BrG _ F X g (dH B k)from by rw[he];exact(((h.setp (k:=k) (j:=39) hk (by decide) (.bool false)).setp (k:=k) (j:=41) hk (by decide) (.bool false)).setp (k:=k) (j:=48) hk (by decide) (.bool true)).alloc (.cells #[.pointer (some ⟨g,k*89,none⟩),.int .i64 (B.hi 2),.int .i64 (B.hi 3),.int .i64 (B.hi 4),.int .i64 (B.hi 5),.func (.func 128) #[] #[.pointer (some ⟨b1,0,none⟩),.pointer (some ⟨b2,0,none⟩)]] 130))
 have hM:=((((Mut.refl F w).setCell (p:=⟨g,k*89+39,none⟩) (.inl h.F2) (.bool false)).setCell (p:=⟨g,k*89+41,none⟩) (.inl h.F2) (.bool false)).setCell (p:=⟨g,k*89+48,none⟩) (.inl h.F2) (.bool true)).alloc (.cells #[.pointer (some ⟨g,k*89,none⟩),.int .i64 (B.hi 2),.int .i64 (B.hi 3),.int .i64 (B.hi 4),.int .i64 (B.hi 5),.func (.func 128) #[] #[.pointer (some ⟨b1,0,none⟩),.pointer (some ⟨b2,0,none⟩)]] 130)
 have C1:=hD ((hM.cell (p:=⟨b1,0,none⟩) (World.block_lt_of_cell? w _ c1) f1).trans c1)
 have C2:=hD ((hM.cell (p:=⟨b2,0,none⟩) (World.block_lt_of_cell? w _ c2) f2).trans c2)
 have HM:=hD hM
 have okc:=lA ho hk
 clear h hF hM c1 c2 he
 go_enter Tryz.func159,Tryz.ntmps159
 go_wp2_with fail
 refine(mQ _ F X g k (dH B k) HBc.out okc hn (by omega) b1 b2 C1.out C2.out f1 f2).mono ?_
 rintro e w2 ⟨rfl,hB2,hm2⟩
 have HR:=hD (HM.out.trans hm2)
 have HB2:=hD (show BrG w2 F X g (dM B k)from hB2)
 clear hB2 hm2
 go_wp2_with fail
 go_end0
 exact⟨rfl,HB2.out,HR.out⟩
theorem aBX(w:World)(F:Nat→Prop)(X g k:Nat)(B:Br)(h:BrG w F X g B)(ho:B.ok)(hk:k<B.np)(hn:B.np<1000)(hT:TR (B.hi 2) (B.hi 3) (B.hi 4) (B.hi 5))(hF:∀n,F n→n<w.heap.size)(b1 b2:Nat)(c1:w.cell? ⟨b1,0,none⟩=some (.pointer (some ⟨X,0,none⟩)))(c2:w.cell? ⟨b2,0,none⟩=some (.int .i64 k))(f1:¬F b1)(f2:¬F b2)(h48:B.gb k 48=false)(h87:B.gi k 87=4):Calls Tryz.prog 159 #[.agg #[.pointer (some ⟨g,k*89,none⟩),.int .i64 (B.hi 2),.int .i64 (B.hi 3),.int .i64 (B.hi 4),.int .i64 (B.hi 5),.func (.func 128) #[] #[.pointer (some ⟨b1,0,none⟩),.pointer (some ⟨b2,0,none⟩)]]] w fun e w'=>e=.returned (.tuple #[])∧BrG w' F X g (dM B k)∧Mut F w w':=by
 obtain⟨hX,hg,hne⟩:=h.lt
 unfold TR at hT
 have he:dH B k=(((B.setp k 39 (.bool false)).setp k 41 (.bool false)).setp k 48 (.bool true)):=by
  unfold dH
  rw[show(B.gb k 48 || (B.gi k 87 == 4))=true by rw[h48,h87];rfl]
 have p39:=qb h ho hk 39
 have p41:=qb h ho hk 41
 have p48:=qb h ho hk 48
 have p87:=qi h ho hk 87 rfl
 have hf:=h.frozen
 rw[h48]at p48
 rw[h87]at p87
 have H:=hD h
 have HF:=hD hF
 have HBc:=hD (show BrG _ F X g (dH B k)from by rw[he];exact(((h.setp (k:=k) (j:=39) hk (by decide) (.bool false)).setp (k:=k) (j:=41) hk (by decide) (.bool false)).setp (k:=k) (j:=48) hk (by decide) (.bool true)).alloc (.cells #[.pointer (some ⟨g,k*89,none⟩),.int .i64 (B.hi 2),.int .i64 (B.hi 3),.int .i64 (B.hi 4),.int .i64 (B.hi 5),.func (.func 128) #[] #[.pointer (some ⟨b1,0,none⟩),.pointer (some ⟨b2,0,none⟩)]] 130))
 have hM:=((((Mut.refl F w).setCell (p:=⟨g,k*89+39,none⟩) (.inl h.F2) (.bool false)).setCell (p:=⟨g,k*89+41,none⟩) (.inl h.F2) (.bool false)).setCell (p:=⟨g,k*89+48,none⟩) (.inl h.F2) (.bool true)).alloc (.cells #[.pointer (some ⟨g,k*89,none⟩),.int .i64 (B.hi 2),.int .i64 (B.hi 3),.int .i64 (B.hi 4),.int .i64 (B.hi 5),.func (.func 128) #[] #[.pointer (some ⟨b1,0,none⟩),.pointer (some ⟨b2,0,none⟩)]] 130)
 have C1:=hD ((hM.cell (p:=⟨b1,0,none⟩) (World.block_lt_of_cell? w _ c1) f1).trans c1)
 have C2:=hD ((hM.cell (p:=⟨b2,0,none⟩) (World.block_lt_of_cell? w _ c2) f2).trans c2)
 have HM:=hD hM
 have okc:=lA ho hk
 clear h hF hM c1 c2 he
 go_enter Tryz.func159,Tryz.ntmps159
 go_wp2_with fail
 refine(mQ _ F X g k (dH B k) HBc.out okc hn (by omega) b1 b2 C1.out C2.out f1 f2).mono ?_
 rintro e w2 ⟨rfl,hB2,hm2⟩
 have HR:=hD (HM.out.trans hm2)
 have HB2:=hD (show BrG w2 F X g (dM B k)from hB2)
 clear hB2 hm2
 go_wp2_with fail
 go_end0
 exact⟨rfl,HB2.out,HR.out⟩
theorem aBY(w:World)(F:Nat→Prop)(X g k:Nat)(B:Br)(h:BrG w F X g B)(ho:B.ok)(hk:k<B.np)(hn:B.np<1000)(hT:TR (B.hi 2) (B.hi 3) (B.hi 4) (B.hi 5))(hF:∀n,F n→n<w.heap.size)(b1 b2:Nat)(c1:w.cell? ⟨b1,0,none⟩=some (.pointer (some ⟨X,0,none⟩)))(c2:w.cell? ⟨b2,0,none⟩=some (.int .i64 k))(f1:¬F b1)(f2:¬F b2)(h48:B.gb k 48=false)(h87:(B.gi k 87 == 4)=false):Calls Tryz.prog 159 #[.agg #[.pointer (some ⟨g,k*89,none⟩),.int .i64 (B.hi 2),.int .i64 (B.hi 3),.int .i64 (B.hi 4),.int .i64 (B.hi 5),.func (.func 128) #[] #[.pointer (some ⟨b1,0,none⟩),.pointer (some ⟨b2,0,none⟩)]]] w fun e w'=>e=.returned (.tuple #[])∧BrG w' F X g (dM B k)∧Mut F w w':=by
 obtain⟨hX,hg,hne⟩:=h.lt
 unfold TR at hT
 have he:dH B k=(((B.setp k 39 (.bool false)).setp k 41 (.bool false)).setp k 48 (.bool false)):=by
  unfold dH
  rw[show(B.gb k 48 || (B.gi k 87 == 4))=false by rw[h48,h87];rfl]
 have p39:=qb h ho hk 39
 have p41:=qb h ho hk 41
 have p48:=qb h ho hk 48
 have p87:=qi h ho hk 87 rfl
 have hf:=h.frozen
 rw[h48]at p48
 have H:=hD h
 have HF:=hD hF
 have HBc:=hD (show BrG _ F X g (dH B k)from by rw[he];exact(((h.setp (k:=k) (j:=39) hk (by decide) (.bool false)).setp (k:=k) (j:=41) hk (by decide) (.bool false)).setp (k:=k) (j:=48) hk (by decide) (.bool false)).alloc (.cells #[.pointer (some ⟨g,k*89,none⟩),.int .i64 (B.hi 2),.int .i64 (B.hi 3),.int .i64 (B.hi 4),.int .i64 (B.hi 5),.func (.func 128) #[] #[.pointer (some ⟨b1,0,none⟩),.pointer (some ⟨b2,0,none⟩)]] 130))
 have hM:=((((Mut.refl F w).setCell (p:=⟨g,k*89+39,none⟩) (.inl h.F2) (.bool false)).setCell (p:=⟨g,k*89+41,none⟩) (.inl h.F2) (.bool false)).setCell (p:=⟨g,k*89+48,none⟩) (.inl h.F2) (.bool false)).alloc (.cells #[.pointer (some ⟨g,k*89,none⟩),.int .i64 (B.hi 2),.int .i64 (B.hi 3),.int .i64 (B.hi 4),.int .i64 (B.hi 5),.func (.func 128) #[] #[.pointer (some ⟨b1,0,none⟩),.pointer (some ⟨b2,0,none⟩)]] 130)
 have C1:=hD ((hM.cell (p:=⟨b1,0,none⟩) (World.block_lt_of_cell? w _ c1) f1).trans c1)
 have C2:=hD ((hM.cell (p:=⟨b2,0,none⟩) (World.block_lt_of_cell? w _ c2) f2).trans c2)
 have HM:=hD hM
 have okc:=lA ho hk
 clear h hF hM c1 c2 he
 go_enter Tryz.func159,Tryz.ntmps159
 go_wp2_with fail
 refine(mQ _ F X g k (dH B k) HBc.out okc hn (by omega) b1 b2 C1.out C2.out f1 f2).mono ?_
 rintro e w2 ⟨rfl,hB2,hm2⟩
 have HR:=hD (HM.out.trans hm2)
 have HB2:=hD (show BrG w2 F X g (dM B k)from hB2)
 clear hB2 hm2
 go_wp2_with fail
 go_end0
 exact⟨rfl,HB2.out,HR.out⟩
theorem uR(w:World)(F:Nat→Prop)(X g k:Nat)(B:Br)(h:BrG w F X g B)(ho:B.ok)(hk:k<B.np)(hn:B.np<1000)(hT:TR (B.hi 2) (B.hi 3) (B.hi 4) (B.hi 5))(hF:∀n,F n→n<w.heap.size)(b1 b2:Nat)(c1:w.cell? ⟨b1,0,none⟩=some (.pointer (some ⟨X,0,none⟩)))(c2:w.cell? ⟨b2,0,none⟩=some (.int .i64 k))(f1:¬F b1)(f2:¬F b2):Calls Tryz.prog 159 #[.agg #[.pointer (some ⟨g,k*89,none⟩),.int .i64 (B.hi 2),.int .i64 (B.hi 3),.int .i64 (B.hi 4),.int .i64 (B.hi 5),.func (.func 128) #[] #[.pointer (some ⟨b1,0,none⟩),.pointer (some ⟨b2,0,none⟩)]]] w fun e w'=>e=.returned (.tuple #[])∧BrG w' F X g (dM B k)∧Mut F w w':=by
 cases h48:B.gb k 48
 ·cases h87:(B.gi k 87 == 4)
  ·exact aBY w F X g k B h ho hk hn hT hF b1 b2 c1 c2 f1 f2 h48 h87
  ·exact aBX w F X g k B h ho hk hn hT hF b1 b2 c1 c2 f1 f2 h48 (by simpa using h87)
 ·exact aBW w F X g k B h ho hk hn hT hF b1 b2 c1 c2 f1 f2 h48
theorem rF(B:Br)(k j:Nat):(bF B k).hi j=B.hi j:=by unfold Br.hi;rw[k9]
theorem xN(w:World)(F:Nat→Prop)(X g k:Nat)(B:Br)(h:BrG w F X g B)(ho:B.ok)(hk:k<B.np)(hn:B.np<1000)(hT:TR (B.hi 2) (B.hi 3) (B.hi 4) (B.hi 5))(hF:∀n,F n→n<w.heap.size)(b1 b2:Nat)(c1:w.cell? ⟨b1,0,none⟩=some (.pointer (some ⟨X,0,none⟩)))(c2:w.cell? ⟨b2,0,none⟩=some (.int .i64 k))(f1:¬F b1)(f2:¬F b2):Calls Tryz.prog 158 #[.agg #[.pointer (some ⟨g,k*89,none⟩),.int .i64 (B.hi 2),.int .i64 (B.hi 3),.int .i64 (B.hi 4),.int .i64 (B.hi 5),.func (.func 128) #[] #[.pointer (some ⟨b1,0,none⟩),.pointer (some ⟨b2,0,none⟩)]]] w fun e w'=>e=.returned (.tuple #[])∧BrG w' F X g (dM (bF B k) k)∧Mut F w w':=by
 have H:=hD h
 have HF:=hD hF
 have HT:=hD hT
 have hx0:=(Ext.refl w).alloc (.cells #[.pointer (some ⟨g,k*89,none⟩),.int .i64 (B.hi 2),.int .i64 (B.hi 3),.int .i64 (B.hi 4),.int .i64 (B.hi 5),.func (.func 128) #[] #[.pointer (some ⟨b1,0,none⟩),.pointer (some ⟨b2,0,none⟩)]] 130)
 have hm0:∀j,(w.alloc (.cells #[.pointer (some ⟨g,k*89,none⟩),.int .i64 (B.hi 2),.int .i64 (B.hi 3),.int .i64 (B.hi 4),.int .i64 (B.hi 5),.func (.func 128) #[] #[.pointer (some ⟨b1,0,none⟩),.pointer (some ⟨b2,0,none⟩)]] 130)).cell? ⟨w.heap.size,j,none⟩=(#[.pointer (some ⟨g,k*89,none⟩),.int .i64 (B.hi 2),.int .i64 (B.hi 3),.int .i64 (B.hi 4),.int .i64 (B.hi 5),.func (.func 128) #[] #[.pointer (some ⟨b1,0,none⟩),.pointer (some ⟨b2,0,none⟩)]]:Array Value)[j]?:=fun j=>World.cell?_alloc_at _ _ _ _ rfl
 have hs0:w.heap.size<(w.alloc (.cells #[.pointer (some ⟨g,k*89,none⟩),.int .i64 (B.hi 2),.int .i64 (B.hi 3),.int .i64 (B.hi 4),.int .i64 (B.hi 5),.func (.func 128) #[] #[.pointer (some ⟨b1,0,none⟩),.pointer (some ⟨b2,0,none⟩)]] 130)).heap.size:=by simp
 have hBx:=h.alloc (.cells #[.pointer (some ⟨g,k*89,none⟩),.int .i64 (B.hi 2),.int .i64 (B.hi 3),.int .i64 (B.hi 4),.int .i64 (B.hi 5),.func (.func 128) #[] #[.pointer (some ⟨b1,0,none⟩),.pointer (some ⟨b2,0,none⟩)]] 130)
 have HX0:=hD hx0
 have HM0:=hD hm0
 have HS0:=hD hs0
 have HBX:=hD hBx
 have C1:=hD c1
 have C2:=hD c2
 clear h hF hT hx0 hm0 hs0 hBx c1 c2
 go_enter Tryz.func158,Tryz.ntmps158
 go_wp2_with fail
 refine(nI _ F X g k B HBX.out ho hk hn HT.out (fun n hn'=>nL (HF.out n hn') HX0.out.size) b1 b2).mono ?_
 rintro e w1 ⟨rfl,hB1,hm1⟩
 have HB1:=hD hB1
 have HM1:=hD hm1
 have HMW:=hD ((HX0.out.mut F).trans hm1)
 have hnf:¬F w.heap.size:=fun hh=>by have:=HF.out _ hh;omega
 have key:=fun j=>(hm1.cell (p:=⟨w.heap.size,j,none⟩) HS0.out hnf).trans (HM0.out j)
 have m0_:=(key 0).trans (show(#[.pointer (some ⟨g,k*89,none⟩),.int .i64 (B.hi 2),.int .i64 (B.hi 3),.int .i64 (B.hi 4),.int .i64 (B.hi 5),.func (.func 128) #[] #[.pointer (some ⟨b1,0,none⟩),.pointer (some ⟨b2,0,none⟩)]]:Array Value)[0]?=some _ from rfl)
 have m1_:=(key 1).trans (show(#[.pointer (some ⟨g,k*89,none⟩),.int .i64 (B.hi 2),.int .i64 (B.hi 3),.int .i64 (B.hi 4),.int .i64 (B.hi 5),.func (.func 128) #[] #[.pointer (some ⟨b1,0,none⟩),.pointer (some ⟨b2,0,none⟩)]]:Array Value)[1]?=some _ from rfl)
 have m2_:=(key 2).trans (show(#[.pointer (some ⟨g,k*89,none⟩),.int .i64 (B.hi 2),.int .i64 (B.hi 3),.int .i64 (B.hi 4),.int .i64 (B.hi 5),.func (.func 128) #[] #[.pointer (some ⟨b1,0,none⟩),.pointer (some ⟨b2,0,none⟩)]]:Array Value)[2]?=some _ from rfl)
 have m3_:=(key 3).trans (show(#[.pointer (some ⟨g,k*89,none⟩),.int .i64 (B.hi 2),.int .i64 (B.hi 3),.int .i64 (B.hi 4),.int .i64 (B.hi 5),.func (.func 128) #[] #[.pointer (some ⟨b1,0,none⟩),.pointer (some ⟨b2,0,none⟩)]]:Array Value)[3]?=some _ from rfl)
 have m4_:=(key 4).trans (show(#[.pointer (some ⟨g,k*89,none⟩),.int .i64 (B.hi 2),.int .i64 (B.hi 3),.int .i64 (B.hi 4),.int .i64 (B.hi 5),.func (.func 128) #[] #[.pointer (some ⟨b1,0,none⟩),.pointer (some ⟨b2,0,none⟩)]]:Array Value)[4]?=some _ from rfl)
 have m5_:=(key 5).trans (show(#[.pointer (some ⟨g,k*89,none⟩),.int .i64 (B.hi 2),.int .i64 (B.hi 3),.int .i64 (B.hi 4),.int .i64 (B.hi 5),.func (.func 128) #[] #[.pointer (some ⟨b1,0,none⟩),.pointer (some ⟨b2,0,none⟩)]]:Array Value)[5]?=some _ from rfl)
 have d1:=hD ((HMW.out.cell (p:=⟨b1,0,none⟩) (World.block_lt_of_cell? w _ C1.out) f1).trans C1.out)
 have d2:=hD ((HMW.out.cell (p:=⟨b2,0,none⟩) (World.block_lt_of_cell? w _ C2.out) f2).trans C2.out)
 clear hB1 hm1 key hnf
 go_wp2_with fail
 have okb:=iS ho hk HT.out
 have hp:=uR w1 F X g k (bF B k) HB1.out okb (by rw[cF];exact hk) (by rw[cF];exact hn) (by simp only[rF];exact HT.out) (fun n hn'=>nL (HF.out n hn') HMW.out.size) b1 b2 d1.out d2.out f1 f2
 simp only[rF]at hp
 refine hp.mono ?_
 rintro e w2 ⟨rfl,hB2,hm2⟩
 have HR:=hD (HMW.out.trans hm2)
 have HB2:=hD hB2
 clear hB2 hm2 hp
 go_wp2_with fail
 go_end0
 exact⟨rfl,HB2.out,HR.out⟩
def aJJ(w:World)(X k:Nat)(e:Ending)(w':World):Prop:=∃b1 b2:Nat,e=.returned (.func (.func 128) #[] #[.pointer (some ⟨b1,0,none⟩),.pointer (some ⟨b2,0,none⟩)])∧Ext w w'∧w.heap.size≤b1∧w.heap.size≤b2 ∧
 w'.cell? ⟨b1,0,none⟩=some (.pointer (some ⟨X,0,none⟩))∧w'.cell? ⟨b2,0,none⟩=some (.int .i64 k)
theorem cG(w:World)(X k:Nat):Calls Tryz.prog 58 #[.pointer (some ⟨X,0,none⟩),.int .i64 k] w (aJJ w X k):=by
 go_enter Tryz.func58,Tryz.ntmps58
 go_wp2
 go_ret
 exact⟨w.heap.size,w.heap.size+1,rfl,((Ext.refl w).alloc _).alloc _,Nat.le_refl _,Nat.le_succ _,(World.cell?_alloc_past _ _ _ (by simp)).trans ((World.cell?_alloc_at _ _ _ _ rfl).trans rfl),(World.cell?_alloc_at _ _ _ _ (by simp)).trans rfl⟩
def jX(B:Br)(k:Nat):Nat:=fS ((B.gi k 87 == 3) || (B.gi k 87 == 4)) (B.gb k 32) (B.gb k 41) (B.gb k 39) (B.gb k 49) (B.gb k 40)
theorem jY(w:World)(F:Nat→Prop)(X g k:Nat)(B:Br)(h:BrG w F X g B)(ho:B.ok)(hk:k<B.np)(hn:B.np<1000)(hT:TR (B.hi 2) (B.hi 3) (B.hi 4) (B.hi 5))(hF:∀n,F n→n<w.heap.size)(b1 b2:Nat)(hs:B.gi k 21=2):Calls Tryz.prog 59 #[.agg #[.pointer (some ⟨g,k*89,none⟩),.int .i64 (B.hi 2),.int .i64 (B.hi 3),.int .i64 (B.hi 4),.int .i64 (B.hi 5),.func (.func 128) #[] #[.pointer (some ⟨b1,0,none⟩),.pointer (some ⟨b2,0,none⟩)]]] w fun e w'=>e=.returned (kC (jX B k) (.agg #[.pointer (some ⟨g,k*89,none⟩),.int .i64 (B.hi 2),.int .i64 (B.hi 3),.int .i64 (B.hi 4),.int .i64 (B.hi 5),.func (.func 128) #[] #[.pointer (some ⟨b1,0,none⟩),.pointer (some ⟨b2,0,none⟩)]]))∧Ext w w':=by
 obtain⟨hX,hg,hne⟩:=h.lt
 have p21:=qi h ho hk 21 rfl
 rw[hs]at p21
 have hx0:=(Ext.refl w).alloc (.cells #[.pointer (some ⟨g,k*89,none⟩),.int .i64 (B.hi 2),.int .i64 (B.hi 3),.int .i64 (B.hi 4),.int .i64 (B.hi 5),.func (.func 128) #[] #[.pointer (some ⟨b1,0,none⟩),.pointer (some ⟨b2,0,none⟩)]] 130)
 have hB0:=h.ext hx0
 have HA:=hD (xJ g (k*89) (B.hi 2) (B.hi 3) (B.hi 4) (B.hi 5) b1 b2 (B.gi k 87) _ rfl (B.gb k 32) (B.gb k 41) (B.gb k 39) (B.gb k 49) (B.gb k 40) (cH B.ps k) (w.alloc (.cells #[.pointer (some ⟨g,k*89,none⟩),.int .i64 (B.hi 2),.int .i64 (B.hi 3),.int .i64 (B.hi 4),.int .i64 (B.hi 5),.func (.func 128) #[] #[.pointer (some ⟨b1,0,none⟩),.pointer (some ⟨b2,0,none⟩)]] 130)) (nL hg hx0.size)
  (qi hB0 ho hk 87 rfl) (hB0.flags hk) (fU ho hk) (fV ho k)
  ((bK (B:=B) (k:=k) (j:=10) (by decide)).trans (ho.gb hk 32 rfl)) ((bK (B:=B) (k:=k) (j:=19) (by decide)).trans (ho.gb hk 41 rfl)) ((bK (B:=B) (k:=k) (j:=17) (by decide)).trans (ho.gb hk 39 rfl))
  ((bK (B:=B) (k:=k) (j:=27) (by decide)).trans (ho.gb hk 49 rfl)) ((bK (B:=B) (k:=k) (j:=18) (by decide)).trans (ho.gb hk 40 rfl)))
 have HX:=hD hx0
 clear h hF hT hx0 hB0 hs
 go_enter Tryz.func59,Tryz.ntmps59
 go_wp2_with fail
 refine HA.out.mono ?_
 rintro e w1 ⟨rfl,hx1⟩
 have HR:=hD (HX.out.trans hx1)
 clear hx1 HA HX
 go_wp2_with fail
 go_ret
 exact⟨rfl,HR.out⟩
theorem cY(p f:Value)(a m h d:Int)(w:World)(hp:∃q,p=.pointer q)(hf:∃x y z,f=.func x y z):(Instr.build 130 #[(0,p),(1,.agg #[.int .i64 a,.int .i64 m,.int .i64 h,.int .i64 d]),(2,f)]).run Tryz.prog w=.ok (.agg #[p,.int .i64 a,.int .i64 m,.int .i64 h,.int .i64 d,f]) w:=by
 obtain⟨q,rfl⟩:=hp
 obtain⟨x,y,z,rfl⟩:=hf
 kernel_rfl
theorem gH(f:FuncId)(cs:Array Value)(w:World):(binOp BinOp.eql 1 (Value.func (Fn.func f) cs #[]) Value.nilFunc).run Tryz.prog w=.ok (.bool false) w:=by kernel_rfl
theorem cZ(w:World):(binOp BinOp.eql 1 Value.nilFunc Value.nilFunc).run Tryz.prog w=.ok (.bool true) w:=by kernel_rfl
theorem b9{w:World}{F:Nat→Prop}{X g:Nat}{B:Br}(h:BrG w F X g B)(ho:B.ok):w.rangeAt X 2 [.int .i64 (B.hi 2),.int .i64 (B.hi 3),.int .i64 (B.hi 4),.int .i64 (B.hi 5)]:=fun j v hv=>by
 have hj:j<4:=by simpa using(List.getElem?_eq_some_iff.1 hv).1
 rcases(by omega:j=0∨j=1∨j=2∨j=3)with rfl|rfl|rfl|rfl
 ·exact((h.cellX ho (i:=2) (by omega)).trans (ho.hi 2 rfl)).trans hv
 ·exact((h.cellX ho (i:=3) (by omega)).trans (ho.hi 3 rfl)).trans hv
 ·exact((h.cellX ho (i:=4) (by omega)).trans (ho.hi 4 rfl)).trans hv
 ·exact((h.cellX ho (i:=5) (by omega)).trans (ho.hi 5 rfl)).trans hv
theorem bN:(Tryz.prog.info? 24).map (·.size)=some 4:=by kernel_rfl
theorem uS(w:World)(F:Nat→Prop)(X g k:Nat)(B:Br)(h:BrG w F X g B)(ho:B.ok)(hk:k<B.np)(hn:B.np<1000)(hT:TR (B.hi 2) (B.hi 3) (B.hi 4) (B.hi 5))(hF:∀n,F n→n<w.heap.size)(h25:B.gb k 25=false)(hs:B.gi k 21=2)(ha:jX B k=0):Calls Tryz.prog 43 #[.pointer (some ⟨X,0,none⟩),.int .i64 k] w (aN w F X g (false,B)):=by
 obtain⟨hX,hg,hne⟩:=h.lt
 obtain⟨cap,c17,hc1,hc2⟩:=h.cell17 ho
 have p25:=qb h ho hk 25
 rw[h25]at p25
 have HTR:=hD (b9 h ho)
 have H:=hD h
 have HF:=hD hF
 have HT:=hD hT
 have HS:=hD hs
 have HA:=hD ha
 have hk8:k<1000:=by omega
 clear h hF hT hs ha h25
 go_enter Tryz.func43,Tryz.ntmps43
 go_wp2_with fail
 refine aT (S:=fun W'=>Ext w W') (by kernel_rfl) ?_
 intro wd hrf
 refine aH 0 g (k*89) rfl hrf ?_
 refine aH 1 X 0 rfl hrf ?_
 refine aH 2 X 0 rfl hrf ?_
 refine aH 3 X 2 rfl hrf ?_
 refine tL 4 (_) rfl (yieldsIf_load_mid rfl 24 _ rfl X (2) rfl ([.int .i64 (B.hi 2),.int .i64 (B.hi 3),.int .i64 (B.hi 4),.int .i64 (B.hi 5)]) _ (fun W' hW'=>aQ HTR.out hW' hX) Tryz.underlying24 rfl bN) hrf ?_
 refine aH 5 X 0 rfl hrf ?_
 refine bO 6 ((.int .i64 (k:Int))) rfl hrf ?_
 refine bB (i:=7) rfl rfl (by kernel_rfl) (fun K hK=>?_)
 go_simp
 refine(cG _ X k).mono ?_
 rintro e y1 ⟨b1,b2,rfl,hy1,hb1,hb2,d1,d2⟩
 have hr1:=hrf.trans hy1
 have hsz:=hrf.size
 have f1:¬F b1:=fun hh=>by have:=HF.out _ hh;omega
 have f2:¬F b2:=fun hh=>by have:=HF.out _ hh;omega
 have D1:=hD d1
 have D2:=hD d2
 clear d1 d2 hy1 hrf hsz hb1 hb2
 refine hK.out _ _ hr1 (fun hHeld=>?_)
 try simp only[ps]
 clear hK K
 have hmb:=fun W':World=>cY (.pointer (some ⟨g,k*89,none⟩)) (.func (.func 128) #[] #[.pointer (some ⟨b1,0,none⟩),.pointer (some ⟨b2,0,none⟩)]) (B.hi 2) (B.hi 3) (B.hi 4) (B.hi 5) W' ⟨_,rfl⟩ ⟨_,_,_,rfl⟩
 refine tL 8 ((.agg #[.pointer (some ⟨g,k*89,none⟩),.int .i64 (B.hi 2),.int .i64 (B.hi 3),.int .i64 (B.hi 4),.int .i64 (B.hi 5),.func (.func 128) #[] #[.pointer (some ⟨b1,0,none⟩),.pointer (some ⟨b2,0,none⟩)]])) rfl (Or.inl ⟨rfl,fun W' _=>by go_simp⟩) hr1 ?_
 clear hmb
 refine bB (i:=9) rfl rfl (by kernel_rfl) (fun K hK=>?_)
 go_simp
 refine(qG (v':=Value.nilFunc) (jY y1 F X g k B (H.out.ext hr1) ho hk hn HT.out (fun n hn'=>nL (HF.out n hn') hr1.size) b1 b2 HS.out) (by rw[HA.out];rfl)).mono ?_
 rintro e y2 ⟨rfl,hy2⟩
 have hr2:=hr1.trans hy2
 have c1:=(hy2.cell (p:=⟨b1,0,none⟩) (World.block_lt_of_cell? _ _ D1.out)).trans D1.out
 have c2:=(hy2.cell (p:=⟨b2,0,none⟩) (World.block_lt_of_cell? _ _ D2.out)).trans D2.out
 have C1:=hD c1
 have C2:=hD c2
 clear c1 c2 hy2 D1 D2
 refine hK.out _ _ hr2 (fun hHeld=>?_)
 try simp only[ps]
 clear hK K
 refine bO 10 (Value.nilFunc) rfl hr2 ?_
 refine wpAnyH_done (by kernel_rfl) ?_ _
 have HR:=hD hr2
 clear hr1 hr2 c17 p25
 have q0:=cZ
 go_wp2_with fail
 go_ret
 exact⟨rfl,H.out.ext HR.out,HR.out.mut F⟩
theorem uT(w:World)(F:Nat→Prop)(X g k:Nat)(B:Br)(h:BrG w F X g B)(ho:B.ok)(hk:k<B.np)(hn:B.np<1000)(hT:TR (B.hi 2) (B.hi 3) (B.hi 4) (B.hi 5))(hF:∀n,F n→n<w.heap.size)(h25:B.gb k 25=false)(hs:B.gi k 21=2)(ha:jX B k=1):Calls Tryz.prog 43 #[.pointer (some ⟨X,0,none⟩),.int .i64 k] w (aN w F X g (true,dR B k)):=by
 obtain⟨hX,hg,hne⟩:=h.lt
 obtain⟨cap,c17,hc1,hc2⟩:=h.cell17 ho
 have p25:=qb h ho hk 25
 rw[h25]at p25
 have HTR:=hD (b9 h ho)
 have H:=hD h
 have HF:=hD hF
 have HT:=hD hT
 have HS:=hD hs
 have HA:=hD ha
 have hk8:k<1000:=by omega
 clear h hF hT hs ha h25
 go_enter Tryz.func43,Tryz.ntmps43
 go_wp2_with fail
 refine aT (S:=fun W'=>Ext w W') (by kernel_rfl) ?_
 intro wd hrf
 refine aH 0 g (k*89) rfl hrf ?_
 refine aH 1 X 0 rfl hrf ?_
 refine aH 2 X 0 rfl hrf ?_
 refine aH 3 X 2 rfl hrf ?_
 refine tL 4 (_) rfl (yieldsIf_load_mid rfl 24 _ rfl X (2) rfl ([.int .i64 (B.hi 2),.int .i64 (B.hi 3),.int .i64 (B.hi 4),.int .i64 (B.hi 5)]) _ (fun W' hW'=>aQ HTR.out hW' hX) Tryz.underlying24 rfl bN) hrf ?_
 refine aH 5 X 0 rfl hrf ?_
 refine bO 6 ((.int .i64 (k:Int))) rfl hrf ?_
 refine bB (i:=7) rfl rfl (by kernel_rfl) (fun K hK=>?_)
 go_simp
 refine(cG _ X k).mono ?_
 rintro e y1 ⟨b1,b2,rfl,hy1,hb1,hb2,d1,d2⟩
 have hr1:=hrf.trans hy1
 have hsz:=hrf.size
 have f1:¬F b1:=fun hh=>by have:=HF.out _ hh;omega
 have f2:¬F b2:=fun hh=>by have:=HF.out _ hh;omega
 have D1:=hD d1
 have D2:=hD d2
 clear d1 d2 hy1 hrf hsz hb1 hb2
 refine hK.out _ _ hr1 (fun hHeld=>?_)
 try simp only[ps]
 clear hK K
 have hmb:=fun W':World=>cY (.pointer (some ⟨g,k*89,none⟩)) (.func (.func 128) #[] #[.pointer (some ⟨b1,0,none⟩),.pointer (some ⟨b2,0,none⟩)]) (B.hi 2) (B.hi 3) (B.hi 4) (B.hi 5) W' ⟨_,rfl⟩ ⟨_,_,_,rfl⟩
 refine tL 8 ((.agg #[.pointer (some ⟨g,k*89,none⟩),.int .i64 (B.hi 2),.int .i64 (B.hi 3),.int .i64 (B.hi 4),.int .i64 (B.hi 5),.func (.func 128) #[] #[.pointer (some ⟨b1,0,none⟩),.pointer (some ⟨b2,0,none⟩)]])) rfl (Or.inl ⟨rfl,fun W' _=>by go_simp⟩) hr1 ?_
 clear hmb
 refine bB (i:=9) rfl rfl (by kernel_rfl) (fun K hK=>?_)
 go_simp
 refine(qG (v':=(.func (.func 129) #[.agg #[.pointer (some ⟨g,k*89,none⟩),.int .i64 (B.hi 2),.int .i64 (B.hi 3),.int .i64 (B.hi 4),.int .i64 (B.hi 5),.func (.func 128) #[] #[.pointer (some ⟨b1,0,none⟩),.pointer (some ⟨b2,0,none⟩)]]] #[])) (jY y1 F X g k B (H.out.ext hr1) ho hk hn HT.out (fun n hn'=>nL (HF.out n hn') hr1.size) b1 b2 HS.out) (by rw[HA.out];rfl)).mono ?_
 rintro e y2 ⟨rfl,hy2⟩
 have hr2:=hr1.trans hy2
 have c1:=(hy2.cell (p:=⟨b1,0,none⟩) (World.block_lt_of_cell? _ _ D1.out)).trans D1.out
 have c2:=(hy2.cell (p:=⟨b2,0,none⟩) (World.block_lt_of_cell? _ _ D2.out)).trans D2.out
 have C1:=hD c1
 have C2:=hD c2
 clear c1 c2 hy2 D1 D2
 refine hK.out _ _ hr2 (fun hHeld=>?_)
 try simp only[ps]
 clear hK K
 refine bO 10 ((.func (.func 129) #[.agg #[.pointer (some ⟨g,k*89,none⟩),.int .i64 (B.hi 2),.int .i64 (B.hi 3),.int .i64 (B.hi 4),.int .i64 (B.hi 5),.func (.func 128) #[] #[.pointer (some ⟨b1,0,none⟩),.pointer (some ⟨b2,0,none⟩)]]] #[])) rfl hr2 ?_
 refine wpAnyH_done (by kernel_rfl) ?_ _
 have HR:=hD hr2
 clear hr1 hr2 c17 p25
 have q0:=cZ
 have q1:=gH 129
 go_wp2_with fail
 refine(lS y2 F X g k B (H.out.ext HR.out) ho hk hn HT.out (fun n hn'=>nL (HF.out n hn') HR.out.size) b1 b2).mono ?_
 rintro e y3 ⟨rfl,hB,hm⟩
 have HB:=hD hB
 have HQ:=hD ((HR.out.mut F).trans hm)
 clear hB hm
 go_wp2_with fail
 go_ret
 exact⟨rfl,HB.out,HQ.out⟩
theorem uU(w:World)(F:Nat→Prop)(X g k:Nat)(B:Br)(h:BrG w F X g B)(ho:B.ok)(hk:k<B.np)(hn:B.np<1000)(hT:TR (B.hi 2) (B.hi 3) (B.hi 4) (B.hi 5))(hF:∀n,F n→n<w.heap.size)(h25:B.gb k 25=false)(hs:B.gi k 21=2)(ha:jX B k=2):Calls Tryz.prog 43 #[.pointer (some ⟨X,0,none⟩),.int .i64 k] w (aN w F X g (true,dM (bF B k) k)):=by
 obtain⟨hX,hg,hne⟩:=h.lt
 obtain⟨cap,c17,hc1,hc2⟩:=h.cell17 ho
 have p25:=qb h ho hk 25
 rw[h25]at p25
 have HTR:=hD (b9 h ho)
 have H:=hD h
 have HF:=hD hF
 have HT:=hD hT
 have HS:=hD hs
 have HA:=hD ha
 have hk8:k<1000:=by omega
 clear h hF hT hs ha h25
 go_enter Tryz.func43,Tryz.ntmps43
 go_wp2_with fail
 refine aT (S:=fun W'=>Ext w W') (by kernel_rfl) ?_
 intro wd hrf
 refine aH 0 g (k*89) rfl hrf ?_
 refine aH 1 X 0 rfl hrf ?_
 refine aH 2 X 0 rfl hrf ?_
 refine aH 3 X 2 rfl hrf ?_
 refine tL 4 (_) rfl (yieldsIf_load_mid rfl 24 _ rfl X (2) rfl ([.int .i64 (B.hi 2),.int .i64 (B.hi 3),.int .i64 (B.hi 4),.int .i64 (B.hi 5)]) _ (fun W' hW'=>aQ HTR.out hW' hX) Tryz.underlying24 rfl bN) hrf ?_
 refine aH 5 X 0 rfl hrf ?_
 refine bO 6 ((.int .i64 (k:Int))) rfl hrf ?_
 refine bB (i:=7) rfl rfl (by kernel_rfl) (fun K hK=>?_)
 go_simp
 refine(cG _ X k).mono ?_
 rintro e y1 ⟨b1,b2,rfl,hy1,hb1,hb2,d1,d2⟩
 have hr1:=hrf.trans hy1
 have hsz:=hrf.size
 have f1:¬F b1:=fun hh=>by have:=HF.out _ hh;omega
 have f2:¬F b2:=fun hh=>by have:=HF.out _ hh;omega
 have D1:=hD d1
 have D2:=hD d2
 clear d1 d2 hy1 hrf hsz hb1 hb2
 refine hK.out _ _ hr1 (fun hHeld=>?_)
 try simp only[ps]
 clear hK K
 have hmb:=fun W':World=>cY (.pointer (some ⟨g,k*89,none⟩)) (.func (.func 128) #[] #[.pointer (some ⟨b1,0,none⟩),.pointer (some ⟨b2,0,none⟩)]) (B.hi 2) (B.hi 3) (B.hi 4) (B.hi 5) W' ⟨_,rfl⟩ ⟨_,_,_,rfl⟩
 refine tL 8 ((.agg #[.pointer (some ⟨g,k*89,none⟩),.int .i64 (B.hi 2),.int .i64 (B.hi 3),.int .i64 (B.hi 4),.int .i64 (B.hi 5),.func (.func 128) #[] #[.pointer (some ⟨b1,0,none⟩),.pointer (some ⟨b2,0,none⟩)]])) rfl (Or.inl ⟨rfl,fun W' _=>by go_simp⟩) hr1 ?_
 clear hmb
 refine bB (i:=9) rfl rfl (by kernel_rfl) (fun K hK=>?_)
 go_simp
 refine(qG (v':=(.func (.func 158) #[.agg #[.pointer (some ⟨g,k*89,none⟩),.int .i64 (B.hi 2),.int .i64 (B.hi 3),.int .i64 (B.hi 4),.int .i64 (B.hi 5),.func (.func 128) #[] #[.pointer (some ⟨b1,0,none⟩),.pointer (some ⟨b2,0,none⟩)]]] #[])) (jY y1 F X g k B (H.out.ext hr1) ho hk hn HT.out (fun n hn'=>nL (HF.out n hn') hr1.size) b1 b2 HS.out) (by rw[HA.out];rfl)).mono ?_
 rintro e y2 ⟨rfl,hy2⟩
 have hr2:=hr1.trans hy2
 have c1:=(hy2.cell (p:=⟨b1,0,none⟩) (World.block_lt_of_cell? _ _ D1.out)).trans D1.out
 have c2:=(hy2.cell (p:=⟨b2,0,none⟩) (World.block_lt_of_cell? _ _ D2.out)).trans D2.out
 have C1:=hD c1
 have C2:=hD c2
 clear c1 c2 hy2 D1 D2
 refine hK.out _ _ hr2 (fun hHeld=>?_)
 try simp only[ps]
 clear hK K
 refine bO 10 ((.func (.func 158) #[.agg #[.pointer (some ⟨g,k*89,none⟩),.int .i64 (B.hi 2),.int .i64 (B.hi 3),.int .i64 (B.hi 4),.int .i64 (B.hi 5),.func (.func 128) #[] #[.pointer (some ⟨b1,0,none⟩),.pointer (some ⟨b2,0,none⟩)]]] #[])) rfl hr2 ?_
 refine wpAnyH_done (by kernel_rfl) ?_ _
 have HR:=hD hr2
 clear hr1 hr2 c17 p25
 have q0:=cZ
 have q1:=gH 158
 go_wp2_with fail
 refine(xN y2 F X g k B (H.out.ext HR.out) ho hk hn HT.out (fun n hn'=>nL (HF.out n hn') HR.out.size) b1 b2 C1.out C2.out f1 f2).mono ?_
 rintro e y3 ⟨rfl,hB,hm⟩
 have HB:=hD hB
 have HQ:=hD ((HR.out.mut F).trans hm)
 clear hB hm
 go_wp2_with fail
 go_ret
 exact⟨rfl,HB.out,HQ.out⟩
theorem uV(w:World)(F:Nat→Prop)(X g k:Nat)(B:Br)(h:BrG w F X g B)(ho:B.ok)(hk:k<B.np)(hn:B.np<1000)(hT:TR (B.hi 2) (B.hi 3) (B.hi 4) (B.hi 5))(hF:∀n,F n→n<w.heap.size)(h25:B.gb k 25=false)(hs:B.gi k 21=2)(ha:jX B k=3):Calls Tryz.prog 43 #[.pointer (some ⟨X,0,none⟩),.int .i64 k] w (aN w F X g (true,dM B k)):=by
 obtain⟨hX,hg,hne⟩:=h.lt
 obtain⟨cap,c17,hc1,hc2⟩:=h.cell17 ho
 have p25:=qb h ho hk 25
 rw[h25]at p25
 have HTR:=hD (b9 h ho)
 have H:=hD h
 have HF:=hD hF
 have HT:=hD hT
 have HS:=hD hs
 have HA:=hD ha
 have hk8:k<1000:=by omega
 clear h hF hT hs ha h25
 go_enter Tryz.func43,Tryz.ntmps43
 go_wp2_with fail
 refine aT (S:=fun W'=>Ext w W') (by kernel_rfl) ?_
 intro wd hrf
 refine aH 0 g (k*89) rfl hrf ?_
 refine aH 1 X 0 rfl hrf ?_
 refine aH 2 X 0 rfl hrf ?_
 refine aH 3 X 2 rfl hrf ?_
 refine tL 4 (_) rfl (yieldsIf_load_mid rfl 24 _ rfl X (2) rfl ([.int .i64 (B.hi 2),.int .i64 (B.hi 3),.int .i64 (B.hi 4),.int .i64 (B.hi 5)]) _ (fun W' hW'=>aQ HTR.out hW' hX) Tryz.underlying24 rfl bN) hrf ?_
 refine aH 5 X 0 rfl hrf ?_
 refine bO 6 ((.int .i64 (k:Int))) rfl hrf ?_
 refine bB (i:=7) rfl rfl (by kernel_rfl) (fun K hK=>?_)
 go_simp
 refine(cG _ X k).mono ?_
 rintro e y1 ⟨b1,b2,rfl,hy1,hb1,hb2,d1,d2⟩
 have hr1:=hrf.trans hy1
 have hsz:=hrf.size
 have f1:¬F b1:=fun hh=>by have:=HF.out _ hh;omega
 have f2:¬F b2:=fun hh=>by have:=HF.out _ hh;omega
 have D1:=hD d1
 have D2:=hD d2
 clear d1 d2 hy1 hrf hsz hb1 hb2
 refine hK.out _ _ hr1 (fun hHeld=>?_)
 try simp only[ps]
 clear hK K
 have hmb:=fun W':World=>cY (.pointer (some ⟨g,k*89,none⟩)) (.func (.func 128) #[] #[.pointer (some ⟨b1,0,none⟩),.pointer (some ⟨b2,0,none⟩)]) (B.hi 2) (B.hi 3) (B.hi 4) (B.hi 5) W' ⟨_,rfl⟩ ⟨_,_,_,rfl⟩
 refine tL 8 ((.agg #[.pointer (some ⟨g,k*89,none⟩),.int .i64 (B.hi 2),.int .i64 (B.hi 3),.int .i64 (B.hi 4),.int .i64 (B.hi 5),.func (.func 128) #[] #[.pointer (some ⟨b1,0,none⟩),.pointer (some ⟨b2,0,none⟩)]])) rfl (Or.inl ⟨rfl,fun W' _=>by go_simp⟩) hr1 ?_
 clear hmb
 refine bB (i:=9) rfl rfl (by kernel_rfl) (fun K hK=>?_)
 go_simp
 refine(qG (v':=(.func (.func 159) #[.agg #[.pointer (some ⟨g,k*89,none⟩),.int .i64 (B.hi 2),.int .i64 (B.hi 3),.int .i64 (B.hi 4),.int .i64 (B.hi 5),.func (.func 128) #[] #[.pointer (some ⟨b1,0,none⟩),.pointer (some ⟨b2,0,none⟩)]]] #[])) (jY y1 F X g k B (H.out.ext hr1) ho hk hn HT.out (fun n hn'=>nL (HF.out n hn') hr1.size) b1 b2 HS.out) (by rw[HA.out];rfl)).mono ?_
 rintro e y2 ⟨rfl,hy2⟩
 have hr2:=hr1.trans hy2
 have c1:=(hy2.cell (p:=⟨b1,0,none⟩) (World.block_lt_of_cell? _ _ D1.out)).trans D1.out
 have c2:=(hy2.cell (p:=⟨b2,0,none⟩) (World.block_lt_of_cell? _ _ D2.out)).trans D2.out
 have C1:=hD c1
 have C2:=hD c2
 clear c1 c2 hy2 D1 D2
 refine hK.out _ _ hr2 (fun hHeld=>?_)
 try simp only[ps]
 clear hK K
 refine bO 10 ((.func (.func 159) #[.agg #[.pointer (some ⟨g,k*89,none⟩),.int .i64 (B.hi 2),.int .i64 (B.hi 3),.int .i64 (B.hi 4),.int .i64 (B.hi 5),.func (.func 128) #[] #[.pointer (some ⟨b1,0,none⟩),.pointer (some ⟨b2,0,none⟩)]]] #[])) rfl hr2 ?_
 refine wpAnyH_done (by kernel_rfl) ?_ _
 have HR:=hD hr2
 clear hr1 hr2 c17 p25
 have q0:=cZ
 have q1:=gH 159
 go_wp2_with fail
 refine(uR y2 F X g k B (H.out.ext HR.out) ho hk hn HT.out (fun n hn'=>nL (HF.out n hn') HR.out.size) b1 b2 C1.out C2.out f1 f2).mono ?_
 rintro e y3 ⟨rfl,hB,hm⟩
 have HB:=hD hB
 have HQ:=hD ((HR.out.mut F).trans hm)
 clear hB hm
 go_wp2_with fail
 go_ret
 exact⟨rfl,HB.out,HQ.out⟩
theorem uW(w:World)(F:Nat→Prop)(X g k:Nat)(B:Br)(h:BrG w F X g B)(ho:B.ok)(hk:k<B.np)(hn:B.np<1000)(hT:TR (B.hi 2) (B.hi 3) (B.hi 4) (B.hi 5))(hF:∀n,F n→n<w.heap.size)(h25:B.gb k 25=false)(hs:B.gi k 21=2)(ha:jX B k=5):Calls Tryz.prog 43 #[.pointer (some ⟨X,0,none⟩),.int .i64 k] w (aN w F X g (true,pH B k)):=by
 obtain⟨hX,hg,hne⟩:=h.lt
 obtain⟨cap,c17,hc1,hc2⟩:=h.cell17 ho
 have p25:=qb h ho hk 25
 rw[h25]at p25
 have HTR:=hD (b9 h ho)
 have H:=hD h
 have HF:=hD hF
 have HT:=hD hT
 have HS:=hD hs
 have HA:=hD ha
 have hk8:k<1000:=by omega
 clear h hF hT hs ha h25
 go_enter Tryz.func43,Tryz.ntmps43
 go_wp2_with fail
 refine aT (S:=fun W'=>Ext w W') (by kernel_rfl) ?_
 intro wd hrf
 refine aH 0 g (k*89) rfl hrf ?_
 refine aH 1 X 0 rfl hrf ?_
 refine aH 2 X 0 rfl hrf ?_
 refine aH 3 X 2 rfl hrf ?_
 refine tL 4 (_) rfl (yieldsIf_load_mid rfl 24 _ rfl X (2) rfl ([.int .i64 (B.hi 2),.int .i64 (B.hi 3),.int .i64 (B.hi 4),.int .i64 (B.hi 5)]) _ (fun W' hW'=>aQ HTR.out hW' hX) Tryz.underlying24 rfl bN) hrf ?_
 refine aH 5 X 0 rfl hrf ?_
 refine bO 6 ((.int .i64 (k:Int))) rfl hrf ?_
 refine bB (i:=7) rfl rfl (by kernel_rfl) (fun K hK=>?_)
 go_simp
 refine(cG _ X k).mono ?_
 rintro e y1 ⟨b1,b2,rfl,hy1,hb1,hb2,d1,d2⟩
 have hr1:=hrf.trans hy1
 have hsz:=hrf.size
 have f1:¬F b1:=fun hh=>by have:=HF.out _ hh;omega
 have f2:¬F b2:=fun hh=>by have:=HF.out _ hh;omega
 have D1:=hD d1
 have D2:=hD d2
 clear d1 d2 hy1 hrf hsz hb1 hb2
 refine hK.out _ _ hr1 (fun hHeld=>?_)
 try simp only[ps]
 clear hK K
 have hmb:=fun W':World=>cY (.pointer (some ⟨g,k*89,none⟩)) (.func (.func 128) #[] #[.pointer (some ⟨b1,0,none⟩),.pointer (some ⟨b2,0,none⟩)]) (B.hi 2) (B.hi 3) (B.hi 4) (B.hi 5) W' ⟨_,rfl⟩ ⟨_,_,_,rfl⟩
 refine tL 8 ((.agg #[.pointer (some ⟨g,k*89,none⟩),.int .i64 (B.hi 2),.int .i64 (B.hi 3),.int .i64 (B.hi 4),.int .i64 (B.hi 5),.func (.func 128) #[] #[.pointer (some ⟨b1,0,none⟩),.pointer (some ⟨b2,0,none⟩)]])) rfl (Or.inl ⟨rfl,fun W' _=>by go_simp⟩) hr1 ?_
 clear hmb
 refine bB (i:=9) rfl rfl (by kernel_rfl) (fun K hK=>?_)
 go_simp
 refine(qG (v':=(.func (.func 161) #[.agg #[.pointer (some ⟨g,k*89,none⟩),.int .i64 (B.hi 2),.int .i64 (B.hi 3),.int .i64 (B.hi 4),.int .i64 (B.hi 5),.func (.func 128) #[] #[.pointer (some ⟨b1,0,none⟩),.pointer (some ⟨b2,0,none⟩)]]] #[])) (jY y1 F X g k B (H.out.ext hr1) ho hk hn HT.out (fun n hn'=>nL (HF.out n hn') hr1.size) b1 b2 HS.out) (by rw[HA.out];rfl)).mono ?_
 rintro e y2 ⟨rfl,hy2⟩
 have hr2:=hr1.trans hy2
 have c1:=(hy2.cell (p:=⟨b1,0,none⟩) (World.block_lt_of_cell? _ _ D1.out)).trans D1.out
 have c2:=(hy2.cell (p:=⟨b2,0,none⟩) (World.block_lt_of_cell? _ _ D2.out)).trans D2.out
 have C1:=hD c1
 have C2:=hD c2
 clear c1 c2 hy2 D1 D2
 refine hK.out _ _ hr2 (fun hHeld=>?_)
 try simp only[ps]
 clear hK K
 refine bO 10 ((.func (.func 161) #[.agg #[.pointer (some ⟨g,k*89,none⟩),.int .i64 (B.hi 2),.int .i64 (B.hi 3),.int .i64 (B.hi 4),.int .i64 (B.hi 5),.func (.func 128) #[] #[.pointer (some ⟨b1,0,none⟩),.pointer (some ⟨b2,0,none⟩)]]] #[])) rfl hr2 ?_
 refine wpAnyH_done (by kernel_rfl) ?_ _
 have HR:=hD hr2
 clear hr1 hr2 c17 p25
 have q0:=cZ
 have q1:=gH 161
 go_wp2_with fail
 refine(aG5 y2 F X g k B (H.out.ext HR.out) ho hk hn HT.out (fun n hn'=>nL (HF.out n hn') HR.out.size) b1 b2).mono ?_
 rintro e y3 ⟨rfl,hB,hm⟩
 have HB:=hD hB
 have HQ:=hD ((HR.out.mut F).trans hm)
 clear hB hm
 go_wp2_with fail
 go_ret
 exact⟨rfl,HB.out,HQ.out⟩
def i5(B:Br)(k:Nat):Br:=(((B.setp k 25 (.bool true)).setp k 48 (.bool false)).setp k 13 (.int .i64 0)).setp k 21 (.int .i64 0)
def fT(B:Br)(k:Nat):Br:=((kL (bF B k) k B.np).setp k 31 (.bool true)).setp k 21 (.int .i64 2)
theorem aBZ(w:World)(F:Nat→Prop)(X g k:Nat)(B:Br)(h:BrG w F X g B)(ho:B.ok)(hk:k<B.np)(hn:B.np<1000)(hT:TR (B.hi 2) (B.hi 3) (B.hi 4) (B.hi 5))(hF:∀n,F n→n<w.heap.size)(b1 b2:Nat):Calls Tryz.prog 157 #[.agg #[.pointer (some ⟨g,k*89,none⟩),.int .i64 (B.hi 2),.int .i64 (B.hi 3),.int .i64 (B.hi 4),.int .i64 (B.hi 5),.func (.func 128) #[] #[.pointer (some ⟨b1,0,none⟩),.pointer (some ⟨b2,0,none⟩)]]] w fun e w'=>e=.returned (.tuple #[])∧BrG w' F X g (i5 B k)∧Mut F w w':=by
 have hbF:¬F w.heap.size:=fun hh=>by have:=hF _ hh;omega
 have HMz:=hD ((Mut.refl F w).alloc (.cells #[.pointer (some ⟨g,k*89,none⟩),.int .i64 (B.hi 2),.int .i64 (B.hi 3),.int .i64 (B.hi 4),.int .i64 (B.hi 5),.func (.func 128) #[] #[.pointer (some ⟨b1,0,none⟩),.pointer (some ⟨b2,0,none⟩)]] 130))
 have HBz:=hD (h.alloc (.cells #[.pointer (some ⟨g,k*89,none⟩),.int .i64 (B.hi 2),.int .i64 (B.hi 3),.int .i64 (B.hi 4),.int .i64 (B.hi 5),.func (.func 128) #[] #[.pointer (some ⟨b1,0,none⟩),.pointer (some ⟨b2,0,none⟩)]] 130))
 have HPz:=hD (heap_alloc_new w (.cells #[.pointer (some ⟨g,k*89,none⟩),.int .i64 (B.hi 2),.int .i64 (B.hi 3),.int .i64 (B.hi 4),.int .i64 (B.hi 5),.func (.func 128) #[] #[.pointer (some ⟨b1,0,none⟩),.pointer (some ⟨b2,0,none⟩)]] 130))
 have HZ0:=hD (show w.heap.size<(w.alloc (.cells #[.pointer (some ⟨g,k*89,none⟩),.int .i64 (B.hi 2),.int .i64 (B.hi 3),.int .i64 (B.hi 4),.int .i64 (B.hi 5),.func (.func 128) #[] #[.pointer (some ⟨b1,0,none⟩),.pointer (some ⟨b2,0,none⟩)]] 130)).heap.size by simp)
 clear h hF hT
 go_enter Tryz.func157,Tryz.ntmps157
 go_wp2_with fail
 generalize hwz:w.alloc (.cells #[.pointer (some ⟨g,k*89,none⟩),.int .i64 (B.hi 2),.int .i64 (B.hi 3),.int .i64 (B.hi 4),.int .i64 (B.hi 5),.func (.func 128) #[] #[.pointer (some ⟨b1,0,none⟩),.pointer (some ⟨b2,0,none⟩)]] 130)=wz at *
 clear hwz
 obtain⟨b0,hb00⟩:∃b,w.heap.size=b:=⟨_,rfl⟩
 rw[hb00]at HZ0 HPz hbF ⊢
 clear hb00
 have hb0:=HZ0.out
 have c0:wz.cell? ⟨b0,0,none⟩=some (.pointer (some ⟨g,k*89,none⟩)):=(cell_of_row _ _ _ _ _ _ HPz.out).trans rfl
 refine aT (S:=fun W'=>Mut F wz W') (by kernel_rfl) ?_
 intro wd hqx
 have hq0:Mut F wz wd:=hqx.mut F
 have HBd:=hD (HBz.out.ext hqx)
 have e25:=(HBd.out.cellg (i:=k*89+25) (bZ hk (by decide))).trans (Br.ok.gb ho (k:=k) hk 25 rfl)
 have e48:=(HBd.out.cellg (i:=k*89+48) (bZ hk (by decide))).trans (Br.ok.gb ho (k:=k) hk 48 rfl)
 have efr:=HBd.out.frozen
 refine aH 0 b0 0 rfl hq0 ?_
 refine tL 1 (_) rfl (aA rfl 79 _ rfl ⟨b0,0,none⟩ rfl (.pointer (some ⟨g,k*89,none⟩)) _ (fun W' hW'=>(hW'.cell (p:=⟨b0,0,none⟩) hb0 hbF).trans c0) Tryz.underlying79 rfl) hq0 ?_
 refine aH 2 b0 0 rfl hq0 ?_
 refine tL 3 (_) rfl (aA rfl 79 _ rfl ⟨b0,0,none⟩ rfl (.pointer (some ⟨g,k*89,none⟩)) _ (fun W' hW'=>(hW'.cell (p:=⟨b0,0,none⟩) hb0 hbF).trans c0) Tryz.underlying79 rfl) hq0 ?_
 refine aH 4 g (k*89) rfl hq0 ?_
 refine aH 5 g (k*89+22) rfl hq0 ?_
 refine aH 6 g (k*89+25) rfl hq0 ?_
 refine bB (i:=7) rfl rfl (by kernel_rfl) (fun K hK=>?_)
 go_simp
 have hq1:=hq0.setCell (p:=⟨g,k*89+25,none⟩) (.inl HBz.out.F2) (.bool true)
 refine hK.out _ _ hq1 (fun hHeld=>?_)
 try simp only[ps]
 clear hK K hHeld
 refine aH 8 g (k*89) rfl hq1 ?_
 refine aH 9 g (k*89+22) rfl hq1 ?_
 refine aH 10 g (k*89+48) rfl hq1 ?_
 refine bB (i:=11) rfl rfl (by kernel_rfl) (fun K hK=>?_)
 go_simp
 have hq2:=hq1.setCell (p:=⟨g,k*89+48,none⟩) (.inl HBz.out.F2) (.bool false)
 refine hK.out _ _ hq2 (fun hHeld=>?_)
 try simp only[ps]
 clear hK K hHeld
 refine wpAnyH_done (by kernel_rfl) ?_ _
 have hBe:=((HBd.out.setp (k:=k) (j:=25) hk (by decide) (.bool true)).setp (k:=k) (j:=48) hk (by decide) (.bool false))
 have hMe:=hq2
 obtain⟨y,hy⟩:∃y,(wd.setCell ⟨g,k*89+25,none⟩ (.bool true)).setCell ⟨g,k*89+48,none⟩ (.bool false)=y:=⟨_,rfl⟩
 rw[hy]at hBe hMe ⊢
 have ok2:Br.ok ((B.setp k 25 (.bool true)).setp k 48 (.bool false)):=(ho.setB hk 25 true rfl).setB (k:=k) hk 48 false rfl
 have e13:=(hBe.cellg (i:=k*89+13) (bZ hk (by decide))).trans (Br.ok.gi ok2 (k:=k) hk 13 rfl)
 have e21:=(hBe.cellg (i:=k*89+21) (bZ hk (by decide))).trans (Br.ok.gi ok2 (k:=k) hk 21 rfl)
 have efr2:=hBe.frozen
 have c0y:=(hMe.cell (p:=⟨b0,0,none⟩) hb0 hbF).trans c0
 have HBe:=hD hBe
 have HMe:=hD (HMz.out.trans hMe)
 clear hBe hMe hy c0 hqx hq0 hq1 hq2 e25 e48
 go_wp2_with fail
 go_end0
 exact⟨rfl,((HBe.out.setp (k:=k) (j:=13) hk (by decide) (.int .i64 0)).setp (k:=k) (j:=21) hk (by decide) (.int .i64 0)),((HMe.out.setCell (p:=⟨g,k*89+13,none⟩) (.inl HBe.out.F2) (.int .i64 0)).setCell (p:=⟨g,k*89+21,none⟩) (.inl HBe.out.F2) (.int .i64 0))⟩
theorem xO(w:World)(F:Nat→Prop)(X g k:Nat)(B:Br)(h:BrG w F X g B)(ho:B.ok)(hk:k<B.np)(hn:B.np<1000)(hT:TR (B.hi 2) (B.hi 3) (B.hi 4) (B.hi 5))(hF:∀n,F n→n<w.heap.size)(b1 b2:Nat):Calls Tryz.prog 160 #[.agg #[.pointer (some ⟨g,k*89,none⟩),.int .i64 (B.hi 2),.int .i64 (B.hi 3),.int .i64 (B.hi 4),.int .i64 (B.hi 5),.func (.func 128) #[] #[.pointer (some ⟨b1,0,none⟩),.pointer (some ⟨b2,0,none⟩)]]] w fun e w'=>e=.returned (.tuple #[])∧BrG w' F X g (gG B k)∧Mut F w w':=by
 have H:=hD h
 have HF:=hD hF
 have HT:=hD hT
 have hbF:¬F w.heap.size:=fun hh=>by have:=hF _ hh;omega
 have HX0:=hD ((Ext.refl w).alloc (.cells #[.pointer (some ⟨g,k*89,none⟩),.int .i64 (B.hi 2),.int .i64 (B.hi 3),.int .i64 (B.hi 4),.int .i64 (B.hi 5),.func (.func 128) #[] #[.pointer (some ⟨b1,0,none⟩),.pointer (some ⟨b2,0,none⟩)]] 130))
 have HBX:=hD (h.alloc (.cells #[.pointer (some ⟨g,k*89,none⟩),.int .i64 (B.hi 2),.int .i64 (B.hi 3),.int .i64 (B.hi 4),.int .i64 (B.hi 5),.func (.func 128) #[] #[.pointer (some ⟨b1,0,none⟩),.pointer (some ⟨b2,0,none⟩)]] 130))
 have HP0:=hD (heap_alloc_new w (.cells #[.pointer (some ⟨g,k*89,none⟩),.int .i64 (B.hi 2),.int .i64 (B.hi 3),.int .i64 (B.hi 4),.int .i64 (B.hi 5),.func (.func 128) #[] #[.pointer (some ⟨b1,0,none⟩),.pointer (some ⟨b2,0,none⟩)]] 130))
 clear h hF hT
 go_enter Tryz.func160,Tryz.ntmps160
 go_wp2_with fail
 refine(nI _ F X g k B HBX.out ho hk hn HT.out (fun n hn'=>nL (HF.out n hn') HX0.out.size) b1 b2).mono ?_
 rintro e w1 ⟨rfl,hB1,hm1⟩
 have HBz:=hD hB1
 have HMz:=hD ((HX0.out.mut F).trans hm1)
 have HPz:=hD ((hm1.heap (by simp) hbF).trans HP0.out)
 have okz:=iS ho hk HT.out
 have hkz:k<(bF B k).np:=by rw[cF];exact hk
 clear hB1 hm1 HP0 HBX
 obtain⟨b0,hb00⟩:∃b,w.heap.size=b:=⟨_,rfl⟩
 rw[hb00]at HPz hbF ⊢
 clear hb00
 have c0:w1.cell? ⟨b0,0,none⟩=some (.pointer (some ⟨g,k*89,none⟩)):=(cell_of_row _ _ _ _ _ _ HPz.out).trans rfl
 have hb0:=aC HPz.out
 go_wp2_with fail
 refine aT (S:=fun W'=>Mut F w1 W') (by kernel_rfl) ?_
 intro wd hqx
 have hq0:Mut F w1 wd:=hqx.mut F
 have HBd:=hD (HBz.out.ext hqx)
 have e25:=(HBd.out.cellg (i:=k*89+25) (bZ hkz (by decide))).trans (Br.ok.gb okz (k:=k) hkz 25 rfl)
 have e49:=(HBd.out.cellg (i:=k*89+49) (bZ hkz (by decide))).trans (Br.ok.gb okz (k:=k) hkz 49 rfl)
 have efr:=HBd.out.frozen
 refine aH 0 b0 0 rfl hq0 ?_
 refine tL 1 (_) rfl (aA rfl 79 _ rfl ⟨b0,0,none⟩ rfl (.pointer (some ⟨g,k*89,none⟩)) _ (fun W' hW'=>(hW'.cell (p:=⟨b0,0,none⟩) hb0 hbF).trans c0) Tryz.underlying79 rfl) hq0 ?_
 refine aH 2 b0 0 rfl hq0 ?_
 refine tL 3 (_) rfl (aA rfl 79 _ rfl ⟨b0,0,none⟩ rfl (.pointer (some ⟨g,k*89,none⟩)) _ (fun W' hW'=>(hW'.cell (p:=⟨b0,0,none⟩) hb0 hbF).trans c0) Tryz.underlying79 rfl) hq0 ?_
 refine aH 4 g (k*89) rfl hq0 ?_
 refine aH 5 g (k*89+22) rfl hq0 ?_
 refine aH 6 g (k*89+25) rfl hq0 ?_
 refine bB (i:=7) rfl rfl (by kernel_rfl) (fun K hK=>?_)
 go_simp
 have hq1:=hq0.setCell (p:=⟨g,k*89+25,none⟩) (.inl HBz.out.F2) (.bool true)
 refine hK.out _ _ hq1 (fun hHeld=>?_)
 try simp only[ps]
 clear hK K hHeld
 refine aH 8 g (k*89) rfl hq1 ?_
 refine aH 9 g (k*89+22) rfl hq1 ?_
 refine aH 10 g (k*89+49) rfl hq1 ?_
 refine bB (i:=11) rfl rfl (by kernel_rfl) (fun K hK=>?_)
 go_simp
 have hq2:=hq1.setCell (p:=⟨g,k*89+49,none⟩) (.inl HBz.out.F2) (.bool false)
 refine hK.out _ _ hq2 (fun hHeld=>?_)
 try simp only[ps]
 clear hK K hHeld
 refine wpAnyH_done (by kernel_rfl) ?_ _
 go_wp2_with fail
 go_end0
 exact⟨rfl,((HBd.out.setp (k:=k) (j:=25) hkz (by decide) (.bool true)).setp (k:=k) (j:=49) hkz (by decide) (.bool false)),HMz.out.trans hq2⟩
theorem sU(w:World)(F:Nat→Prop)(X g k:Nat)(B:Br)(h:BrG w F X g B)(ho:B.ok)(hk:k<B.np)(hn:B.np<1000)(hT:TR (B.hi 2) (B.hi 3) (B.hi 4) (B.hi 5))(hF:∀n,F n→n<w.heap.size)(b1 b2:Nat)(c1:w.cell? ⟨b1,0,none⟩=some (.pointer (some ⟨X,0,none⟩)))(c2:w.cell? ⟨b2,0,none⟩=some (.int .i64 k))(f1:¬F b1)(f2:¬F b2):Calls Tryz.prog 155 #[.agg #[.pointer (some ⟨g,k*89,none⟩),.int .i64 (B.hi 2),.int .i64 (B.hi 3),.int .i64 (B.hi 4),.int .i64 (B.hi 5),.func (.func 128) #[] #[.pointer (some ⟨b1,0,none⟩),.pointer (some ⟨b2,0,none⟩)]]] w fun e w'=>e=.returned (.tuple #[])∧BrG w' F X g (fT B k)∧Mut F w w':=by
 have H:=hD h
 have HF:=hD hF
 have HT:=hD hT
 have hbF:¬F w.heap.size:=fun hh=>by have:=hF _ hh;omega
 have HX0:=hD ((Ext.refl w).alloc (.cells #[.pointer (some ⟨g,k*89,none⟩),.int .i64 (B.hi 2),.int .i64 (B.hi 3),.int .i64 (B.hi 4),.int .i64 (B.hi 5),.func (.func 128) #[] #[.pointer (some ⟨b1,0,none⟩),.pointer (some ⟨b2,0,none⟩)]] 130))
 have HBX:=hD (h.alloc (.cells #[.pointer (some ⟨g,k*89,none⟩),.int .i64 (B.hi 2),.int .i64 (B.hi 3),.int .i64 (B.hi 4),.int .i64 (B.hi 5),.func (.func 128) #[] #[.pointer (some ⟨b1,0,none⟩),.pointer (some ⟨b2,0,none⟩)]] 130))
 have HP0:=hD (heap_alloc_new w (.cells #[.pointer (some ⟨g,k*89,none⟩),.int .i64 (B.hi 2),.int .i64 (B.hi 3),.int .i64 (B.hi 4),.int .i64 (B.hi 5),.func (.func 128) #[] #[.pointer (some ⟨b1,0,none⟩),.pointer (some ⟨b2,0,none⟩)]] 130))
 have C1:=hD c1
 have C2:=hD c2
 clear c1 c2
 clear h hF hT
 go_enter Tryz.func155,Tryz.ntmps155
 go_wp2_with fail
 refine(nI _ F X g k B HBX.out ho hk hn HT.out (fun n hn'=>nL (HF.out n hn') HX0.out.size) b1 b2).mono ?_
 rintro e w1 ⟨rfl,hB1,hm1⟩
 have HBz:=hD hB1
 have HMz:=hD ((HX0.out.mut F).trans hm1)
 have HPz:=hD ((hm1.heap (by simp) hbF).trans HP0.out)
 have okz:=iS ho hk HT.out
 have hkz:k<(bF B k).np:=by rw[cF];exact hk
 clear hB1 hm1 HP0 HBX
 have d1:=hD ((HMz.out.cell (p:=⟨b1,0,none⟩) (World.block_lt_of_cell? w _ C1.out) f1).trans C1.out)
 have d2:=hD ((HMz.out.cell (p:=⟨b2,0,none⟩) (World.block_lt_of_cell? w _ C2.out) f2).trans C2.out)
 have m5:w1.cell? ⟨w.heap.size,5,none⟩=some (.func (.func 128) #[] #[.pointer (some ⟨b1,0,none⟩),.pointer (some ⟨b2,0,none⟩)]):=(cell_of_row _ _ _ _ _ _ HPz.out).trans rfl
 go_wp2_with fail
 refine(mQ _ F X g k (bF B k) HBz.out okz (by rw[cF];exact hn) (by omega) b1 b2 d1.out d2.out f1 f2).mono ?_
 rintro e w2 ⟨rfl,hB2,hm2⟩
 rw[cF]at hB2
 have okt:Br.ok (kL (bF B k) k B.np):=nH okz k B.np (by rw[cF];exact Nat.le_refl _)
 have hkt:k<(kL (bF B k) k B.np).np:=by rw[kB];exact hkz
 have c0:w2.cell? ⟨w.heap.size,0,none⟩=some (.pointer (some ⟨g,k*89,none⟩)):=(hm2.cell (p:=⟨w.heap.size,0,none⟩) (aC HPz.out) hbF).trans ((cell_of_row _ _ _ _ _ _ HPz.out).trans rfl)
 have e31:=(hB2.cellg (i:=k*89+31) (bZ hkt (by decide))).trans (Br.ok.gb okt (k:=k) hkt 31 rfl)
 have e21:=(hB2.cellg (i:=k*89+21) (bZ hkt (by decide))).trans (Br.ok.gi okt (k:=k) hkt 21 rfl)
 have efr:=hB2.frozen
 have HB2:=hD hB2
 have HM2:=hD (HMz.out.trans hm2)
 clear hB2 hm2 m5
 go_wp2_with fail
 go_end0
 exact⟨rfl,((HB2.out.setp (k:=k) (j:=31) hkt (by decide) (.bool true)).setp (k:=k) (j:=21) hkt (by decide) (.int .i64 2)),((HM2.out.setCell (p:=⟨g,k*89+31,none⟩) (.inl HB2.out.F2) (.bool true)).setCell (p:=⟨g,k*89+21,none⟩) (.inl HB2.out.F2) (.int .i64 2))⟩
end Go.Proofs.YtpanapepcbbagaaGreat
