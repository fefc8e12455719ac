/- Part 3 of what BridgeRests stands on. No statement is proved here. -/
import Derived.Laws.CopyRow
import Derived.Test.YtpanapepcbbagaaGreatBvb
set_option linter.unusedVariables false
set_option linter.unusedSimpArgs false
set_option maxRecDepth 100000
set_option maxHeartbeats 8000000
namespace Go.Proofs.YtpanapepcbbagaaGreat
open Go.RowKit
def bV(x y:Int):Int:=if x<y then -1 else if y<x then 1 else 0
theorem zD(x y:Int)(w:World):Calls Tryz.prog 181 #[.int .u64 x,.int .u64 y] w fun e w'=>e=.returned (.int .i64 (bV x y))∧w=w':=by
 have nan:∀(z:Int) (w:World),Calls Tryz.prog 186 #[.int .u64 z] w fun e w'=>e=.returned (.bool false)∧w=w':=fun z w=>by
  go_enter Tryz.func186,Tryz.ntmps186
  go_wp2
  go_ret
  exact⟨lY (by simp),rfl⟩
 have HN:=hD nan
 clear nan
 rcases(show x<y∨y<x∨x=y by omega)with h|h|h
 ·refine qS (x:=-1) ?_ (by simp[bV,h])
  go_enter Tryz.func181,Tryz.ntmps181
  go_wp2_with fail
  refine(HN.out _ _).mono ?_
  rintro e w1 ⟨rfl,rfl⟩
  go_wp2_with fail
  refine(HN.out _ _).mono ?_
  rintro e w1 ⟨rfl,rfl⟩
  go_wp2
  go_ret
  exact⟨rfl,rfl⟩
 ·refine qS (x:=1) ?_ (by simp[bV,h];omega)
  go_enter Tryz.func181,Tryz.ntmps181
  go_wp2_with fail
  refine(HN.out _ _).mono ?_
  rintro e w1 ⟨rfl,rfl⟩
  go_wp2_with fail
  refine(HN.out _ _).mono ?_
  rintro e w1 ⟨rfl,rfl⟩
  go_wp2
  go_ret
  exact⟨rfl,rfl⟩
 ·subst h
  refine qS (x:=0) ?_ (by simp[bV])
  go_enter Tryz.func181,Tryz.ntmps181
  go_wp2_with fail
  refine(HN.out _ _).mono ?_
  rintro e w1 ⟨rfl,rfl⟩
  go_wp2_with fail
  refine(HN.out _ _).mono ?_
  rintro e w1 ⟨rfl,rfl⟩
  go_wp2
  go_ret
  exact⟨rfl,rfl⟩
theorem aF2(x y:Int)(w:World):Calls Tryz.prog 182 #[.int .u32 x,.int .u32 y] w fun e w'=>e=.returned (.int .i64 (bV x y))∧w=w':=by
 have nan:∀(z:Int) (w:World),Calls Tryz.prog 187 #[.int .u32 z] w fun e w'=>e=.returned (.bool false)∧w=w':=fun z w=>by
  go_enter Tryz.func187,Tryz.ntmps187
  go_wp2
  go_ret
  exact⟨lY (by simp),rfl⟩
 have HN:=hD nan
 clear nan
 rcases(show x<y∨y<x∨x=y by omega)with h|h|h
 ·refine qS (x:=-1) ?_ (by simp[bV,h])
  go_enter Tryz.func182,Tryz.ntmps182
  go_wp2_with fail
  refine(HN.out _ _).mono ?_
  rintro e w1 ⟨rfl,rfl⟩
  go_wp2_with fail
  refine(HN.out _ _).mono ?_
  rintro e w1 ⟨rfl,rfl⟩
  go_wp2
  go_ret
  exact⟨rfl,rfl⟩
 ·refine qS (x:=1) ?_ (by simp[bV,h];omega)
  go_enter Tryz.func182,Tryz.ntmps182
  go_wp2_with fail
  refine(HN.out _ _).mono ?_
  rintro e w1 ⟨rfl,rfl⟩
  go_wp2_with fail
  refine(HN.out _ _).mono ?_
  rintro e w1 ⟨rfl,rfl⟩
  go_wp2
  go_ret
  exact⟨rfl,rfl⟩
 ·subst h
  refine qS (x:=0) ?_ (by simp[bV])
  go_enter Tryz.func182,Tryz.ntmps182
  go_wp2_with fail
  refine(HN.out _ _).mono ?_
  rintro e w1 ⟨rfl,rfl⟩
  go_wp2_with fail
  refine(HN.out _ _).mono ?_
  rintro e w1 ⟨rfl,rfl⟩
  go_wp2
  go_ret
  exact⟨rfl,rfl⟩
theorem zE(x y:Int)(w:World):Calls Tryz.prog 183 #[.int .u16 x,.int .u16 y] w fun e w'=>e=.returned (.int .i64 (bV x y))∧w=w':=by
 have nan:∀(z:Int) (w:World),Calls Tryz.prog 188 #[.int .u16 z] w fun e w'=>e=.returned (.bool false)∧w=w':=fun z w=>by
  go_enter Tryz.func188,Tryz.ntmps188
  go_wp2
  go_ret
  exact⟨lY (by simp),rfl⟩
 have HN:=hD nan
 clear nan
 rcases(show x<y∨y<x∨x=y by omega)with h|h|h
 ·refine qS (x:=-1) ?_ (by simp[bV,h])
  go_enter Tryz.func183,Tryz.ntmps183
  go_wp2_with fail
  refine(HN.out _ _).mono ?_
  rintro e w1 ⟨rfl,rfl⟩
  go_wp2_with fail
  refine(HN.out _ _).mono ?_
  rintro e w1 ⟨rfl,rfl⟩
  go_wp2
  go_ret
  exact⟨rfl,rfl⟩
 ·refine qS (x:=1) ?_ (by simp[bV,h];omega)
  go_enter Tryz.func183,Tryz.ntmps183
  go_wp2_with fail
  refine(HN.out _ _).mono ?_
  rintro e w1 ⟨rfl,rfl⟩
  go_wp2_with fail
  refine(HN.out _ _).mono ?_
  rintro e w1 ⟨rfl,rfl⟩
  go_wp2
  go_ret
  exact⟨rfl,rfl⟩
 ·subst h
  refine qS (x:=0) ?_ (by simp[bV])
  go_enter Tryz.func183,Tryz.ntmps183
  go_wp2_with fail
  refine(HN.out _ _).mono ?_
  rintro e w1 ⟨rfl,rfl⟩
  go_wp2_with fail
  refine(HN.out _ _).mono ?_
  rintro e w1 ⟨rfl,rfl⟩
  go_wp2
  go_ret
  exact⟨rfl,rfl⟩
theorem qV(r c b p x r' c' b' p' x':Int)(w:World):Calls Tryz.prog 164 #[.agg #[.int .u64 r,.int .u32 c,.int .u64 b,.int .u16 p,.int .u16 x],.agg #[.int .u64 r',.int .u32 c',.int .u64 b',.int .u16 p',.int .u16 x']] w fun e w'=>e=.returned (.int .i64 (bV r r'))∧Ext w w':=by
 go_enter Tryz.func164,Tryz.ntmps164
 go_wp2_with fail
 refine(zD _ _ _).mono ?_
 rintro e w1 ⟨rfl,rfl⟩
 go_wp2
 go_ret
 exact⟨rfl,((Ext.refl w).alloc _).alloc _⟩
theorem qW(r c b p x r' c' b' p' x':Int)(w:World):Calls Tryz.prog 165 #[.agg #[.int .u64 r,.int .u32 c,.int .u64 b,.int .u16 p,.int .u16 x],.agg #[.int .u64 r',.int .u32 c',.int .u64 b',.int .u16 p',.int .u16 x']] w fun e w'=>e=.returned (.int .i64 (bV c c'))∧Ext w w':=by
 go_enter Tryz.func165,Tryz.ntmps165
 go_wp2_with fail
 refine(aF2 _ _ _).mono ?_
 rintro e w1 ⟨rfl,rfl⟩
 go_wp2
 go_ret
 exact⟨rfl,((Ext.refl w).alloc _).alloc _⟩
theorem nV(r c b p x r' c' b' p' x':Int)(w:World):Calls Tryz.prog 166 #[.agg #[.int .u64 r,.int .u32 c,.int .u64 b,.int .u16 p,.int .u16 x],.agg #[.int .u64 r',.int .u32 c',.int .u64 b',.int .u16 p',.int .u16 x']] w fun e w'=>e=.returned (.int .i64 (bV b b'))∧Ext w w':=by
 go_enter Tryz.func166,Tryz.ntmps166
 go_wp2_with fail
 refine(zD _ _ _).mono ?_
 rintro e w1 ⟨rfl,rfl⟩
 go_wp2
 go_ret
 exact⟨rfl,((Ext.refl w).alloc _).alloc _⟩
theorem qX(r c b p x r' c' b' p' x':Int)(w:World):Calls Tryz.prog 167 #[.agg #[.int .u64 r,.int .u32 c,.int .u64 b,.int .u16 p,.int .u16 x],.agg #[.int .u64 r',.int .u32 c',.int .u64 b',.int .u16 p',.int .u16 x']] w fun e w'=>e=.returned (.int .i64 (bV p p'))∧Ext w w':=by
 go_enter Tryz.func167,Tryz.ntmps167
 go_wp2_with fail
 refine(zE _ _ _).mono ?_
 rintro e w1 ⟨rfl,rfl⟩
 go_wp2
 go_ret
 exact⟨rfl,((Ext.refl w).alloc _).alloc _⟩
theorem aF3(r c b p x r' c' b' p' x':Int)(w:World):Calls Tryz.prog 168 #[.agg #[.int .u64 r,.int .u32 c,.int .u64 b,.int .u16 p,.int .u16 x],.agg #[.int .u64 r',.int .u32 c',.int .u64 b',.int .u16 p',.int .u16 x']] w fun e w'=>e=.returned (.int .i64 (bV x x'))∧Ext w w':=by
 go_enter Tryz.func168,Tryz.ntmps168
 go_wp2_with fail
 refine(zE _ _ _).mono ?_
 rintro e w1 ⟨rfl,rfl⟩
 go_wp2
 go_ret
 exact⟨rfl,((Ext.refl w).alloc _).alloc _⟩
def cU:List Int→Int
 | []=>0
 | x :: l=>if x=0 then cU l else x
theorem o2(r c b p x r' c' b' p' x':Int){w:World}{t:TypeId}{w':World}(hx:Ext ((w.alloc (.cells #[.int .u64 r,.int .u32 c,.int .u64 b,.int .u16 p,.int .u16 x] t)).alloc (.cells #[.int .u64 r',.int .u32 c',.int .u64 b',.int .u16 p',.int .u16 x'] t)) w'):
    (w'.cell? ⟨w.heap.size,0,none⟩=some (.int .u64 r)∧w'.cell? ⟨w.heap.size,1,none⟩=some (.int .u32 c)∧w'.cell? ⟨w.heap.size,2,none⟩=some (.int .u64 b)∧w'.cell? ⟨w.heap.size,3,none⟩=some (.int .u16 p)∧w'.cell? ⟨w.heap.size,4,none⟩=some (.int .u16 x))∧(w'.cell? ⟨w.heap.size+1,0,none⟩=some (.int .u64 r')∧w'.cell? ⟨w.heap.size+1,1,none⟩=some (.int .u32 c')∧w'.cell? ⟨w.heap.size+1,2,none⟩=some (.int .u64 b')∧w'.cell? ⟨w.heap.size+1,3,none⟩=some (.int .u16 p')∧w'.cell? ⟨w.heap.size+1,4,none⟩=some (.int .u16 x')):=by
 have o:∀j,w'.cell? ⟨w.heap.size,j,none⟩=#[.int .u64 r,.int .u32 c,.int .u64 b,.int .u16 p,.int .u16 x][j]?:=fun j=>(hx.cell (by simp;omega)).trans ((World.cell?_alloc_past _ _ _ (by simp)).trans (World.cell?_alloc_at _ _ _ _ rfl))
 have n:∀j,w'.cell? ⟨w.heap.size+1,j,none⟩=#[.int .u64 r',.int .u32 c',.int .u64 b',.int .u16 p',.int .u16 x'][j]?:=fun j=>(hx.cell (by simp)).trans (World.cell?_alloc_at _ _ _ _ (by simp))
 exact⟨⟨o 0,o 1,o 2,o 3,o 4⟩,n 0,n 1,n 2,n 3,n 4⟩
theorem aI2(r c b p x r' c' b' p' x':Int)(S cap:Nat)(w:World)(hS0:S<w.heap.size)(f0:w.cell? ⟨S,0,none⟩=some (.func (.func 164) #[] #[]))(f1:w.cell? ⟨S,1,none⟩=some (.func (.func 165) #[] #[]))(f2:w.cell? ⟨S,2,none⟩=some (.func (.func 166) #[] #[]))(f3:w.cell? ⟨S,3,none⟩=some (.func (.func 167) #[] #[]))(f4:w.cell? ⟨S,4,none⟩=some (.func (.func 168) #[] #[])):
    Calls Tryz.prog 163 #[.agg #[.int .u64 r,.int .u32 c,.int .u64 b,.int .u16 p,.int .u16 x],.agg #[.int .u64 r',.int .u32 c',.int .u64 b',.int .u16 p',.int .u16 x'],.slice (some ⟨S,0,none⟩) 5 cap] w fun e w'=>e=.returned (.int .i64 (cU [bV r r',bV c c',bV b b',bV p p',bV x x']))∧Ext w w':=by
 have hS:=hD (fun w' (hx:Ext ((w.alloc (.cells #[.int .u64 r,.int .u32 c,.int .u64 b,.int .u16 p,.int .u16 x] 30)).alloc (.cells #[.int .u64 r',.int .u32 c',.int .u64 b',.int .u16 p',.int .u16 x'] 30)) w')=>And.intro (o2 r c b p x r' c' b' p' x' hx)
  (show w'.cell? ⟨S,0,none⟩=some (.func (.func 164) #[] #[])∧w'.cell? ⟨S,1,none⟩=some (.func (.func 165) #[] #[])∧w'.cell? ⟨S,2,none⟩=some (.func (.func 166) #[] #[])∧w'.cell? ⟨S,3,none⟩=some (.func (.func 167) #[] #[])∧w'.cell? ⟨S,4,none⟩=some (.func (.func 168) #[] #[])from⟨((((Ext.refl w).alloc _).alloc _).trans hx).cell hS0 |>.trans f0,((((Ext.refl w).alloc _).alloc _).trans hx).cell hS0 |>.trans f1,((((Ext.refl w).alloc _).alloc _).trans hx).cell hS0 |>.trans f2,((((Ext.refl w).alloc _).alloc _).trans hx).cell hS0 |>.trans f3,((((Ext.refl w).alloc _).alloc _).trans hx).cell hS0 |>.trans f4⟩))
 clear f0 f1 f2 f3 f4
 go_enter Tryz.func163,Tryz.ntmps163
 go_wp2
 generalize hB:(w.alloc (Obj.cells #[Value.int IntKind.u64 r,Value.int IntKind.u32 c,Value.int IntKind.u64 b,Value.int IntKind.u16 p,Value.int IntKind.u16 x] 30)).alloc (Obj.cells #[Value.int IntKind.u64 r',Value.int IntKind.u32 c',Value.int IntKind.u64 b',Value.int IntKind.u16 p',Value.int IntKind.u16 x'] 30)=B at hS ⊢
 have hwB:Ext w B:=by rw[←hB];exact((Ext.refl w).alloc _).alloc _
 clear hB
 have x0:Ext B B:=Ext.refl B
 have K:=hS.out _ x0
 refine wp_loop_rounds 6 ?_
 rw[rounds_succ]
 go_wp2_with fail
 refine(qV r c b p x r' c' b' p' x' _).mono ?_
 rintro e w1 ⟨rfl,h1⟩
 have x1:Ext B w1:=x0.trans h1
 clear K
 have K:=hS.out _ x1
 by_cases z1:bV r r'=0
 rotate_left
 ·have b1:(bV r r' != 0)=true:=by simpa using z1
  have Z:=hD z1
  clear z1
  go_wp2
  go_ret
  exact⟨lL (by simp[cU,Z.out]),hwB.trans x1⟩
 have b1:(bV r r' != 0)=false:=by simpa using z1
 have y1:=hD z1
 clear z1
 go_wp2
 rw[rounds_succ]
 go_wp2_with fail
 refine(qW r c b p x r' c' b' p' x' _).mono ?_
 rintro e w2 ⟨rfl,h2⟩
 have x2:Ext B w2:=x1.trans h2
 clear K
 have K:=hS.out _ x2
 by_cases z2:bV c c'=0
 rotate_left
 ·have b2:(bV c c' != 0)=true:=by simpa using z2
  have Z:=hD z2
  clear z2
  go_wp2
  go_ret
  exact⟨lL (by simp[cU,y1.out,Z.out]),hwB.trans x2⟩
 have b2:(bV c c' != 0)=false:=by simpa using z2
 have y2:=hD z2
 clear z2
 go_wp2
 rw[rounds_succ]
 go_wp2_with fail
 refine(nV r c b p x r' c' b' p' x' _).mono ?_
 rintro e w3 ⟨rfl,h3⟩
 have x3:Ext B w3:=x2.trans h3
 clear K
 have K:=hS.out _ x3
 by_cases z3:bV b b'=0
 rotate_left
 ·have b3:(bV b b' != 0)=true:=by simpa using z3
  have Z:=hD z3
  clear z3
  go_wp2
  go_ret
  exact⟨lL (by simp[cU,y1.out,y2.out,Z.out]),hwB.trans x3⟩
 have b3:(bV b b' != 0)=false:=by simpa using z3
 have y3:=hD z3
 clear z3
 go_wp2
 rw[rounds_succ]
 go_wp2_with fail
 refine(qX r c b p x r' c' b' p' x' _).mono ?_
 rintro e w4 ⟨rfl,h4⟩
 have x4:Ext B w4:=x3.trans h4
 clear K
 have K:=hS.out _ x4
 by_cases z4:bV p p'=0
 rotate_left
 ·have b4:(bV p p' != 0)=true:=by simpa using z4
  have Z:=hD z4
  clear z4
  go_wp2
  go_ret
  exact⟨lL (by simp[cU,y1.out,y2.out,y3.out,Z.out]),hwB.trans x4⟩
 have b4:(bV p p' != 0)=false:=by simpa using z4
 have y4:=hD z4
 clear z4
 go_wp2
 rw[rounds_succ]
 go_wp2_with fail
 refine(aF3 r c b p x r' c' b' p' x' _).mono ?_
 rintro e w5 ⟨rfl,h5⟩
 have x5:Ext B w5:=x4.trans h5
 clear K
 have K:=hS.out _ x5
 by_cases z5:bV x x'=0
 rotate_left
 ·have b5:(bV x x' != 0)=true:=by simpa using z5
  have Z:=hD z5
  clear z5
  go_wp2
  go_ret
  exact⟨lL (by simp[cU,y1.out,y2.out,y3.out,y4.out,Z.out]),hwB.trans x5⟩
 have b5:(bV x x' != 0)=false:=by simpa using z5
 have y5:=hD z5
 clear z5
 go_wp2
 rw[rounds_succ]
 go_wp2
 go_ret
 exact⟨lL (by simp[cU,y1.out,y2.out,y3.out,y4.out,y5.out]),hwB.trans x5⟩
theorem aI3(r c b p x r' c' b' p' x':Int)(S cap:Nat)(w:World)(hS0:S<w.heap.size)(f0:w.cell? ⟨S,0,none⟩=some (.func (.func 164) #[] #[]))(f1:w.cell? ⟨S,1,none⟩=some (.func (.func 165) #[] #[]))(f2:w.cell? ⟨S,2,none⟩=some (.func (.func 166) #[] #[]))(f3:w.cell? ⟨S,3,none⟩=some (.func (.func 167) #[] #[])):
    Calls Tryz.prog 163 #[.agg #[.int .u64 r,.int .u32 c,.int .u64 b,.int .u16 p,.int .u16 x],.agg #[.int .u64 r',.int .u32 c',.int .u64 b',.int .u16 p',.int .u16 x'],.slice (some ⟨S,0,none⟩) 4 cap] w fun e w'=>e=.returned (.int .i64 (cU [bV r r',bV c c',bV b b',bV p p']))∧Ext w w':=by
 have hS:=hD (fun w' (hx:Ext ((w.alloc (.cells #[.int .u64 r,.int .u32 c,.int .u64 b,.int .u16 p,.int .u16 x] 30)).alloc (.cells #[.int .u64 r',.int .u32 c',.int .u64 b',.int .u16 p',.int .u16 x'] 30)) w')=>And.intro (o2 r c b p x r' c' b' p' x' hx)
  (show w'.cell? ⟨S,0,none⟩=some (.func (.func 164) #[] #[])∧w'.cell? ⟨S,1,none⟩=some (.func (.func 165) #[] #[])∧w'.cell? ⟨S,2,none⟩=some (.func (.func 166) #[] #[])∧w'.cell? ⟨S,3,none⟩=some (.func (.func 167) #[] #[])from⟨((((Ext.refl w).alloc _).alloc _).trans hx).cell hS0 |>.trans f0,((((Ext.refl w).alloc _).alloc _).trans hx).cell hS0 |>.trans f1,((((Ext.refl w).alloc _).alloc _).trans hx).cell hS0 |>.trans f2,((((Ext.refl w).alloc _).alloc _).trans hx).cell hS0 |>.trans f3⟩))
 clear f0 f1 f2 f3
 go_enter Tryz.func163,Tryz.ntmps163
 go_wp2
 generalize hB:(w.alloc (Obj.cells #[Value.int IntKind.u64 r,Value.int IntKind.u32 c,Value.int IntKind.u64 b,Value.int IntKind.u16 p,Value.int IntKind.u16 x] 30)).alloc (Obj.cells #[Value.int IntKind.u64 r',Value.int IntKind.u32 c',Value.int IntKind.u64 b',Value.int IntKind.u16 p',Value.int IntKind.u16 x'] 30)=B at hS ⊢
 have hwB:Ext w B:=by rw[←hB];exact((Ext.refl w).alloc _).alloc _
 clear hB
 have x0:Ext B B:=Ext.refl B
 have K:=hS.out _ x0
 refine wp_loop_rounds 5 ?_
 rw[rounds_succ]
 go_wp2_with fail
 refine(qV r c b p x r' c' b' p' x' _).mono ?_
 rintro e w1 ⟨rfl,h1⟩
 have x1:Ext B w1:=x0.trans h1
 clear K
 have K:=hS.out _ x1
 by_cases z1:bV r r'=0
 rotate_left
 ·have b1:(bV r r' != 0)=true:=by simpa using z1
  have Z:=hD z1
  clear z1
  go_wp2
  go_ret
  exact⟨lL (by simp[cU,Z.out]),hwB.trans x1⟩
 have b1:(bV r r' != 0)=false:=by simpa using z1
 have y1:=hD z1
 clear z1
 go_wp2
 rw[rounds_succ]
 go_wp2_with fail
 refine(qW r c b p x r' c' b' p' x' _).mono ?_
 rintro e w2 ⟨rfl,h2⟩
 have x2:Ext B w2:=x1.trans h2
 clear K
 have K:=hS.out _ x2
 by_cases z2:bV c c'=0
 rotate_left
 ·have b2:(bV c c' != 0)=true:=by simpa using z2
  have Z:=hD z2
  clear z2
  go_wp2
  go_ret
  exact⟨lL (by simp[cU,y1.out,Z.out]),hwB.trans x2⟩
 have b2:(bV c c' != 0)=false:=by simpa using z2
 have y2:=hD z2
 clear z2
 go_wp2
 rw[rounds_succ]
 go_wp2_with fail
 refine(nV r c b p x r' c' b' p' x' _).mono ?_
 rintro e w3 ⟨rfl,h3⟩
 have x3:Ext B w3:=x2.trans h3
 clear K
 have K:=hS.out _ x3
 by_cases z3:bV b b'=0
 rotate_left
 ·have b3:(bV b b' != 0)=true:=by simpa using z3
  have Z:=hD z3
  clear z3
  go_wp2
  go_ret
  exact⟨lL (by simp[cU,y1.out,y2.out,Z.out]),hwB.trans x3⟩
 have b3:(bV b b' != 0)=false:=by simpa using z3
 have y3:=hD z3
 clear z3
 go_wp2
 rw[rounds_succ]
 go_wp2_with fail
 refine(qX r c b p x r' c' b' p' x' _).mono ?_
 rintro e w4 ⟨rfl,h4⟩
 have x4:Ext B w4:=x3.trans h4
 clear K
 have K:=hS.out _ x4
 by_cases z4:bV p p'=0
 rotate_left
 ·have b4:(bV p p' != 0)=true:=by simpa using z4
  have Z:=hD z4
  clear z4
  go_wp2
  go_ret
  exact⟨lL (by simp[cU,y1.out,y2.out,y3.out,Z.out]),hwB.trans x4⟩
 have b4:(bV p p' != 0)=false:=by simpa using z4
 have y4:=hD z4
 clear z4
 go_wp2
 rw[rounds_succ]
 go_wp2
 go_ret
 exact⟨lL (by simp[cU,y1.out,y2.out,y3.out,y4.out]),hwB.trans x4⟩
theorem aC6(r c b p x r' c' b' p' x':Int)(w:World):
    Calls Tryz.prog 136 #[.agg #[.int .u64 r,.int .u32 c,.int .u64 b,.int .u16 p,.int .u16 x],.agg #[.int .u64 r',.int .u32 c',.int .u64 b',.int .u16 p',.int .u16 x']] w fun e w'=>e=.returned (.int .i64 (cU [bV r r',bV c c',bV b b',bV p p',bV x x']))∧Ext w w':=by
 go_enter Tryz.func136,Tryz.ntmps136
 go_wp2_with fail
 refine(aI2 r c b p x r' c' b' p' x' _ _ _ (by simp) ?_ ?_ ?_ ?_ ?_).mono ?_
 ·exact(World.cell?_alloc_at _ _ _ _ (by simp)).trans rfl
 ·exact(World.cell?_alloc_at _ _ _ _ (by simp)).trans rfl
 ·exact(World.cell?_alloc_at _ _ _ _ (by simp)).trans rfl
 ·exact(World.cell?_alloc_at _ _ _ _ (by simp)).trans rfl
 ·exact(World.cell?_alloc_at _ _ _ _ (by simp)).trans rfl
 rintro e w1 ⟨rfl,h1⟩
 go_wp2
 go_ret
 exact⟨rfl,((((Ext.refl w).alloc _).alloc _).alloc _).trans h1⟩
theorem mZ(r c b p x r' c' b' p' x':Int)(w:World):
    Calls Tryz.prog 137 #[.agg #[.int .u64 r,.int .u32 c,.int .u64 b,.int .u16 p,.int .u16 x],.agg #[.int .u64 r',.int .u32 c',.int .u64 b',.int .u16 p',.int .u16 x']] w fun e w'=>e=.returned (.int .i64 (cU [bV r r',bV c c',bV b b',bV p p']))∧Ext w w':=by
 go_enter Tryz.func137,Tryz.ntmps137
 go_wp2_with fail
 refine(aI3 r c b p x r' c' b' p' x' _ _ _ (by simp) ?_ ?_ ?_ ?_).mono ?_
 ·exact(World.cell?_alloc_at _ _ _ _ (by simp)).trans rfl
 ·exact(World.cell?_alloc_at _ _ _ _ (by simp)).trans rfl
 ·exact(World.cell?_alloc_at _ _ _ _ (by simp)).trans rfl
 ·exact(World.cell?_alloc_at _ _ _ _ (by simp)).trans rfl
 rintro e w1 ⟨rfl,h1⟩
 go_wp2
 go_ret
 exact⟨rfl,((((Ext.refl w).alloc _).alloc _).alloc _).trans h1⟩
def c4(r c b p r' c' b' p':Int):Int:=cU [bV r r',bV c c',bV b b',bV p p']
def c5(r c b p x r' c' b' p' x':Int):Int:=cU [bV r r',bV c c',bV b b',bV p p',bV x x']
theorem aIB(r c b p x r' c' b' p' x':Int):c5 r c b p x r' c' b' p' x'=if c4 r c b p r' c' b' p'=0 then bV x x' else c4 r c b p r' c' b' p':=by
 unfold c5 c4
 simp only[cU]
 (repeat' split)<;>simp_all
theorem fW(r c b p x r' c' b' p' x':Int)(w:World):Calls Tryz.prog 63 #[.agg #[.int .u64 r,.int .u32 c,.int .u64 b,.int .u16 p,.int .u16 x],.agg #[.int .u64 r',.int .u32 c',.int .u64 b',.int .u16 p',.int .u16 x']] w fun e w'=>e=.returned (.bool (decide (c5 r c b p x r' c' b' p' x'<0)))∧Ext w w':=by
 go_enter Tryz.func63,Tryz.ntmps63
 go_wp2_with fail
 refine(qS (aC6 r c b p x r' c' b' p' x' _) (show _=c5 r c b p x r' c' b' p' x' from rfl)).mono ?_
 rintro e w1 ⟨rfl,h1⟩
 go_wp2
 go_ret
 exact⟨rfl,(((Ext.refl w).alloc _).alloc _).trans h1⟩
theorem eJ(r c b p x r' c' b' p' x':Int)(w:World):Calls Tryz.prog 67 #[.agg #[.int .u64 r,.int .u32 c,.int .u64 b,.int .u16 p,.int .u16 x],.agg #[.int .u64 r',.int .u32 c',.int .u64 b',.int .u16 p',.int .u16 x']] w fun e w'=>e=.returned (.bool (c4 r c b p r' c' b' p' == 0))∧Ext w w':=by
 go_enter Tryz.func67,Tryz.ntmps67
 go_wp2_with fail
 refine(qS (mZ r c b p x r' c' b' p' x' _) (show _=c4 r c b p r' c' b' p' from rfl)).mono ?_
 rintro e w1 ⟨rfl,h1⟩
 go_wp2
 go_ret
 exact⟨rfl,(((Ext.refl w).alloc _).alloc _).trans h1⟩
def tG(b p b' p':Int):Bool:=(b % 281474976710656 == b' % 281474976710656) && (p % 4096 == p' % 4096)
theorem tH(r c b p x r' c' b' p' x':Int)(w:World)(hb:0≤b∧b<18446744073709551616)(hb':0≤b'∧b'<18446744073709551616)(hp:0≤p∧p<65536)(hp':0≤p'∧p'<65536):
    Calls Tryz.prog 185 #[.agg #[.int .u64 r,.int .u32 c,.int .u64 b,.int .u16 p,.int .u16 x],.agg #[.int .u64 r',.int .u32 c',.int .u64 b',.int .u16 p',.int .u16 x']] w fun e w'=>e=.returned (.bool (tG b p b' p'))∧Ext w w':=by
 obtain⟨hb0,hb1⟩:=hb
 obtain⟨hc0,hc1⟩:=hb'
 obtain⟨hp0,hp1⟩:=hp
 obtain⟨hq0,hq1⟩:=hp'
 cases he:(b % 281474976710656 == b' % 281474976710656)
 ·refine eM (x:=false) ?_ (by simp[tG,he])
  go_enter Tryz.func185,Tryz.ntmps185
  go_wp2
  go_quiet ((first|(go_at_call 162;first|exact eP (jP _ _ (by omega) (by omega))|exact quietA (jP _ _ (by omega) (by omega)))|(go_at_call 189;first|exact eP (oJ _ _ (by omega) (by omega))|exact quietA (oJ _ _ (by omega) (by omega)))))
  go_wp2
  go_ret
  exact⟨rfl,(((Ext.refl w).alloc _).alloc _).drewN _⟩
 ·refine eM (x:=(p % 4096 == p' % 4096)) ?_ (by simp[tG,he])
  go_enter Tryz.func185,Tryz.ntmps185
  go_wp2
  go_quiet ((first|(go_at_call 162;first|exact eP (jP _ _ (by omega) (by omega))|exact quietA (jP _ _ (by omega) (by omega)))|(go_at_call 189;first|exact eP (oJ _ _ (by omega) (by omega))|exact quietA (oJ _ _ (by omega) (by omega)))))
  go_wp2
  go_ret
  exact⟨rfl,(((Ext.refl w).alloc _).alloc _).drewN _⟩
theorem lH(r c b p x r' c' b' p' x':Int)(w:World)(hb:0≤b∧b<18446744073709551616)(hb':0≤b'∧b'<18446744073709551616)(hp:0≤p∧p<65536)(hp':0≤p'∧p'<65536):
    Calls Tryz.prog 174 #[.agg #[.int .u64 r,.int .u32 c,.int .u64 b,.int .u16 p,.int .u16 x],.agg #[.int .u64 r',.int .u32 c',.int .u64 b',.int .u16 p',.int .u16 x']] w fun e w'=>e=.returned (.bool (decide (c4 r c b p r' c' b' p'<0) || tG b p b' p'))∧Ext w w':=by
 have hS:=hD (fun w'=>@o2 r c b p x r' c' b' p' x' w 30 w')
 cases he:decide (c4 r c b p r' c' b' p'<0)
 ·refine eM (x:=tG b p b' p') ?_ (by simp)
  go_enter Tryz.func174,Tryz.ntmps174
  go_wp2_with fail
  refine(qS (mZ r c b p x r' c' b' p' x' _) (show _=c4 r c b p r' c' b' p' from rfl)).mono ?_
  rintro e w1 ⟨rfl,h1⟩
  have K:=hS.out _ h1
  go_wp2_with fail
  refine(tH r c b p x r' c' b' p' x' _ hb hb' hp hp').mono ?_
  rintro e w2 ⟨rfl,h2⟩
  go_wp2
  go_ret
  exact⟨rfl,(((Ext.refl w).alloc _).alloc _).trans (h1.trans h2)⟩
 ·refine eM (x:=true) ?_ (by simp)
  go_enter Tryz.func174,Tryz.ntmps174
  go_wp2_with fail
  refine(qS (mZ r c b p x r' c' b' p' x' _) (show _=c4 r c b p r' c' b' p' from rfl)).mono ?_
  rintro e w1 ⟨rfl,h1⟩
  go_wp2
  go_ret
  exact⟨rfl,(((Ext.refl w).alloc _).alloc _).trans h1⟩
def oC(c q:Int):Int:=if c+q≤4294967295 then c+q else 4294967295
theorem sB(r c b p x q z:Int)(w:World)(hc:0≤c∧c<4294967296)(hq:0≤q∧q<4294967296):
    Calls Tryz.prog 135 #[.agg #[.int .u64 r,.int .u32 c,.int .u64 b,.int .u16 p,.int .u16 x],.int .u32 q,.int .u16 z] w fun e w'=>e=.returned (.agg #[.int .u64 r,.int .u32 (oC c q),.int .u64 b,.int .u16 p,.int .u16 z])∧Ext w w':=by
 obtain⟨hc0,hc1⟩:=hc
 obtain⟨hq0,hq1⟩:=hq
 by_cases h:c+q≤4294967295
 ·refine qG (v:=.agg #[.int .u64 r,.int .u32 (c+q),.int .u64 b,.int .u16 p,.int .u16 z]) ?_ (by simp[oC,h])
  go_enter Tryz.func135,Tryz.ntmps135
  go_wp2
  exact bodyPost_ret (v:=.agg #[.int .u64 r,.int .u32 (c+q),.int .u64 b,.int .u16 p,.int .u16 z]) (by simp[results,Tryz.results135,go_sem]) rfl ⟨rfl,((Ext.refl w).alloc _).alloc _⟩
 ·refine qG (v:=.agg #[.int .u64 r,.int .u32 4294967295,.int .u64 b,.int .u16 p,.int .u16 z]) ?_ (by simp[oC,h])
  go_enter Tryz.func135,Tryz.ntmps135
  go_wp2
  exact bodyPost_ret (v:=.agg #[.int .u64 r,.int .u32 4294967295,.int .u64 b,.int .u16 p,.int .u16 z]) (by simp[results,Tryz.results135,go_sem]) rfl ⟨rfl,((Ext.refl w).alloc _).alloc _⟩
theorem aC7(r:Int)(w:World):
    Calls Tryz.prog 22 #[.int .u64 r] w fun e w'=>e=.returned (.agg #[.int .u64 r,.int .u32 0,.int .u64 r,.int .u16 0,.int .u16 0])∧Ext w w':=by
 go_enter Tryz.func22,Tryz.ntmps22
 go_wp2
 exact bodyPost_ret (v:=.agg #[.int .u64 r,.int .u32 0,.int .u64 r,.int .u16 0,.int .u16 0]) (by simp[results,Tryz.results22,go_sem]) rfl ⟨rfl,(Ext.refl w).alloc _⟩
end Go.Proofs.YtpanapepcbbagaaGreat
namespace Go.Proofs.YtpanapepcbbagaaGreat
open Go.RowKit Go.BigFrame Go.WideShapes Go.ChangeShapes Go.Deep
theorem nA(a m h d:Int)(w:World)(h0:-9223372036854775808≤a)(h1:a<9223372036854775807):
    Calls Tryz.prog 64 #[.agg #[.int .i64 a,.int .i64 m,.int .i64 h,.int .i64 d]] w fun e w'=>e=.returned (.agg #[.int .i64 (a+1),.int .i64 m,.int .i64 h,.int .i64 d])∧Ext w w':=by
 go_enter Tryz.func64,Tryz.ntmps64
 go_wp2
 exact bodyPost_ret (v:=.agg #[.int .i64 (a+1),.int .i64 m,.int .i64 h,.int .i64 d]) (by simp[results,Tryz.results64,go_sem]) rfl ⟨rfl,((Ext.refl w).alloc _).alloc _⟩
theorem w64(n:Int)(h0:-9223372036854775808≤n)(h1:n≤9223372036854775807):wrap64 n=n:=by unfold wrap64;omega
theorem tI{w:World}{t:TypeId}(a m h d:Int){w':World}(hx:Ext (w.alloc (.cells #[.int .i64 a,.int .i64 m,.int .i64 h,.int .i64 d] t)) w'):
    Ext (w.alloc (.cells #[.int .i64 a,.int .i64 m,.int .i64 h,.int .i64 d] t)) w'∧w'.cell? ⟨w.heap.size,0,none⟩=some (.int .i64 a)∧w'.cell? ⟨w.heap.size,1,none⟩=some (.int .i64 m) ∧
     w'.cell? ⟨w.heap.size,2,none⟩=some (.int .i64 h)∧w'.cell? ⟨w.heap.size,3,none⟩=some (.int .i64 d) :=
 ⟨hx,(hx.cell (by simp)).trans ((World.cell?_alloc_at _ _ _ _ rfl).trans rfl),(hx.cell (by simp)).trans ((World.cell?_alloc_at _ _ _ _ rfl).trans rfl),
  (hx.cell (by simp)).trans ((World.cell?_alloc_at _ _ _ _ rfl).trans rfl),(hx.cell (by simp)).trans ((World.cell?_alloc_at _ _ _ _ rfl).trans rfl)⟩
theorem l7(a m h d:Int)(w:World):(Instr.field 24 (.agg #[.int .i64 a,.int .i64 m,.int .i64 h,.int .i64 d]) 0).run Tryz.prog w=.ok (.int .i64 a) w:=by kernel_rfl
theorem aAU(a m h d:Int)(w:World)(ha:0≤a)(ha':a≤65535)(hm:0≤m)(hm':m≤65535)(hh:0≤h)(hh':h≤65535)(hlt:a+1≤m):
    Calls Tryz.prog 184 #[.agg #[.int .i64 a,.int .i64 m,.int .i64 h,.int .i64 d]] w fun e w'=>e=.returned (.int .i64 (3*h))∧Ext w w':=by
 have hS:=hD (fun w'=>@tI w 24 a m h d w')
 have hfd:=l7 (a+1) m h d
 go_enter Tryz.func184,Tryz.ntmps184
 go_wp2
 generalize hB:w.alloc (Obj.cells #[Value.int IntKind.i64 a,Value.int IntKind.i64 m,Value.int IntKind.i64 h,Value.int IntKind.i64 d] 24)=B at hS ⊢
 have hwB:Ext w B:=by rw[←hB];exact(Ext.refl w).alloc _
 clear hB
 go_region_held3 (fun w'=>Ext B w'∧w'.cell? ⟨w.heap.size,0,none⟩=some (.int .i64 a)∧w'.cell? ⟨w.heap.size,1,none⟩=some (.int .i64 m)∧w'.cell? ⟨w.heap.size,2,none⟩=some (.int .i64 h)∧w'.cell? ⟨w.heap.size,3,none⟩=some (.int .i64 d))
  ((first|exact hS.out _ (Ext.refl _)|exact hS.out _ (Ext.drew (Ext.refl _))|exact hS.out _ (Ext.drew (And.left (by assumption)))|exact hS.out _ (Ext.trans (And.left (by assumption)) (by assumption))))
  (first|(go_at_call 64;refine(nA _ _ _ _ _ (by omega) (by omega)).mono ?_;rintro e w1 ⟨rfl,h1⟩))
 have hw1:Ext w w1:=hwB.trans ((Ext.refl _).drew.trans h1)
 have hc:=hS.out _ ((Ext.refl _).drew.trans h1)
 have hf:decide (m<a+1)=false:=by simp;omega
 go_wp2
 go_ret
 exact⟨lL (by omega),hw1⟩
theorem aC8(a m h d:Int)(w:World)(ha:0≤a)(ha':a≤65535)(hm:0≤m)(hm':m≤65535)(hh:0≤h)(hh':h≤65535)(hlt:m<a+1):
    Calls Tryz.prog 184 #[.agg #[.int .i64 a,.int .i64 m,.int .i64 h,.int .i64 d]] w fun e w'=>e=.returned (.int .i64 (0))∧Ext w w':=by
 have hS:=hD (fun w'=>@tI w 24 a m h d w')
 have hfd:=l7 (a+1) m h d
 go_enter Tryz.func184,Tryz.ntmps184
 go_wp2
 generalize hB:w.alloc (Obj.cells #[Value.int IntKind.i64 a,Value.int IntKind.i64 m,Value.int IntKind.i64 h,Value.int IntKind.i64 d] 24)=B at hS ⊢
 have hwB:Ext w B:=by rw[←hB];exact(Ext.refl w).alloc _
 clear hB
 go_region_held3 (fun w'=>Ext B w'∧w'.cell? ⟨w.heap.size,0,none⟩=some (.int .i64 a)∧w'.cell? ⟨w.heap.size,1,none⟩=some (.int .i64 m)∧w'.cell? ⟨w.heap.size,2,none⟩=some (.int .i64 h)∧w'.cell? ⟨w.heap.size,3,none⟩=some (.int .i64 d))
  ((first|exact hS.out _ (Ext.refl _)|exact hS.out _ (Ext.drew (Ext.refl _))|exact hS.out _ (Ext.drew (And.left (by assumption)))|exact hS.out _ (Ext.trans (And.left (by assumption)) (by assumption))))
  (first|(go_at_call 64;refine(nA _ _ _ _ _ (by omega) (by omega)).mono ?_;rintro e w1 ⟨rfl,h1⟩))
 have hw1:Ext w w1:=hwB.trans ((Ext.refl _).drew.trans h1)
 have hc:=hS.out _ ((Ext.refl _).drew.trans h1)
 have hf:decide (m<a+1)=true:=by simp;omega
 go_wp2
 go_ret
 exact⟨lL (by omega),hw1⟩
def dT(a m h:Int):Int:=if a<m then 3*h else 0
theorem aAV(a m h d:Int)(w:World)(ha:0≤a)(ha':a≤65535)(hm:0≤m)(hm':m≤65535)(hh:0≤h)(hh':h≤65535):
    Calls Tryz.prog 184 #[.agg #[.int .i64 a,.int .i64 m,.int .i64 h,.int .i64 d]] w fun e w'=>e=.returned (.int .i64 (dT a m h))∧Ext w w':=by
 by_cases hlt:a<m
 ·exact qS (aAU a m h d w ha ha' hm hm' hh hh' (by omega)) (by simp[dT,hlt])
 ·exact qS (aC8 a m h d w ha ha' hm hm' hh hh' (by omega)) (by simp[dT,hlt])
theorem aC9(w:World)(a m h d a' m' h' d':Int):(binOp .eql 24 (.agg #[.int .i64 a,.int .i64 m,.int .i64 h,.int .i64 d]) (.agg #[.int .i64 a',.int .i64 m',.int .i64 h',.int .i64 d'])).run Tryz.prog w =
    .ok (.bool (a == a' && m == m' && h == h' && d == d')) w:=by
 have k1:Tryz.prog.stoodInHeld 24=false:=by kernel_rfl
 simp[go_sem,k1,Tryz.underlying24]
 split
 ·split
  ·split
   ·split<;>simp_all
   ·simp_all
  ·simp_all
 ·simp_all
end Go.Proofs.YtpanapepcbbagaaGreat
