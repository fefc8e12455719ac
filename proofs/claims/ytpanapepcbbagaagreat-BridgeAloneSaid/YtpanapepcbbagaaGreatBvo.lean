/- Part 15 of what BridgeRests stands on. No statement is proved here. -/
import Derived.Deep.QuietTactic
import Derived.WalkMore
import Derived.ScopeJumps
import Derived.Test.YtpanapepcbbagaaGreatBvn
set_option linter.unusedVariables false
set_option linter.unusedSimpArgs false
set_option maxRecDepth 100000
set_option maxHeartbeats 8000000
namespace Go.Proofs.YtpanapepcbbagaaGreat
open Go.RowKit Go.BigFrame Go.WideShapes Go.ChangeShapes Go.Deep
def trTab:Array Value:=#[.int .i64 (-1),.func (.func 82) #[] #[],.func (.func 83) #[] #[],.int .i64 0,.int .i64 (-1),.func (.func 84) #[] #[],.func (.func 85) #[] #[],.int .i64 2,.int .i64 (-1),.func (.func 86) #[] #[],.func (.func 87) #[] #[],.int .i64 3,.int .i64 (-1),.func (.func 88) #[] #[],.func (.func 83) #[] #[],.int .i64 4,.int .i64 0,.func (.func 89) #[] #[],.func (.func 90) #[] #[],.int .i64 1,.int .i64 1,.func (.func 91) #[] #[],.func (.func 90) #[] #[],.int .i64 1,.int .i64 4,.func (.func 89) #[] #[],.func (.func 92) #[] #[],.int .i64 5,.int .i64 5,.func (.func 93) #[] #[],.func (.func 94) #[] #[],.int .i64 (-2),.int .i64 5,.func (.func 95) #[] #[],.func (.func 96) #[] #[],.int .i64 (-2),.int .i64 5,.func (.func 97) #[] #[],.func (.func 98) #[] #[],.int .i64 (-2),.int .i64 5,.func (.func 99) #[] #[],.func (.func 92) #[] #[],.int .i64 5,.int .i64 2,.func (.func 93) #[] #[],.func (.func 94) #[] #[],.int .i64 (-2),.int .i64 2,.func (.func 95) #[] #[],.func (.func 100) #[] #[],.int .i64 (-2),.int .i64 2,.func (.func 101) #[] #[],.func (.func 102) #[] #[],.int .i64 (-2),.int .i64 2,.func (.func 103) #[] #[],.func (.func 104) #[] #[],.int .i64 (-2),.int .i64 2,.func (.func 105) #[] #[],.func (.func 106) #[] #[],.int .i64 (-2),.int .i64 2,.func (.func 107) #[] #[],.func (.func 108) #[] #[],.int .i64 (-2),.int .i64 2,.func (.func 109) #[] #[],.func (.func 110) #[] #[],.int .i64 (-2),.int .i64 3,.func (.func 111) #[] #[],.func (.func 112) #[] #[],.int .i64 (-2),.int .i64 3,.func (.func 113) #[] #[],.func (.func 114) #[] #[],.int .i64 (-2),.int .i64 3,.func (.func 115) #[] #[],.func (.func 108) #[] #[],.int .i64 (-2),.int .i64 3,.func (.func 116) #[] #[],.func (.func 117) #[] #[],.int .i64 (-2),.int .i64 3,.func (.func 118) #[] #[],.func (.func 104) #[] #[],.int .i64 (-2),.int .i64 3,.func (.func 119) #[] #[],.func (.func 120) #[] #[],.int .i64 (-2)]
theorem zJ:(Tryz.prog.info? 117).map (·.size)=some trTab.size:=by kernel_rfl
theorem aD8:Tryz.prog.built 117 [(0,.agg #[.int .i64 (-1),.func (.func 82) #[] #[],.func (.func 83) #[] #[],.int .i64 0]),(1,.agg #[.int .i64 (-1),.func (.func 84) #[] #[],.func (.func 85) #[] #[],.int .i64 2]),(2,.agg #[.int .i64 (-1),.func (.func 86) #[] #[],.func (.func 87) #[] #[],.int .i64 3]),(3,.agg #[.int .i64 (-1),.func (.func 88) #[] #[],.func (.func 83) #[] #[],.int .i64 4]),(4,.agg #[.int .i64 0,.func (.func 89) #[] #[],.func (.func 90) #[] #[],.int .i64 1]),(5,.agg #[.int .i64 1,.func (.func 91) #[] #[],.func (.func 90) #[] #[],.int .i64 1]),(6,.agg #[.int .i64 4,.func (.func 89) #[] #[],.func (.func 92) #[] #[],.int .i64 5]),(7,.agg #[.int .i64 5,.func (.func 93) #[] #[],.func (.func 94) #[] #[],.int .i64 (-2)]),(8,.agg #[.int .i64 5,.func (.func 95) #[] #[],.func (.func 96) #[] #[],.int .i64 (-2)]),(9,.agg #[.int .i64 5,.func (.func 97) #[] #[],.func (.func 98) #[] #[],.int .i64 (-2)]),(10,.agg #[.int .i64 5,.func (.func 99) #[] #[],.func (.func 92) #[] #[],.int .i64 5]),(11,.agg #[.int .i64 2,.func (.func 93) #[] #[],.func (.func 94) #[] #[],.int .i64 (-2)]),(12,.agg #[.int .i64 2,.func (.func 95) #[] #[],.func (.func 100) #[] #[],.int .i64 (-2)]),(13,.agg #[.int .i64 2,.func (.func 101) #[] #[],.func (.func 102) #[] #[],.int .i64 (-2)]),(14,.agg #[.int .i64 2,.func (.func 103) #[] #[],.func (.func 104) #[] #[],.int .i64 (-2)]),(15,.agg #[.int .i64 2,.func (.func 105) #[] #[],.func (.func 106) #[] #[],.int .i64 (-2)]),(16,.agg #[.int .i64 2,.func (.func 107) #[] #[],.func (.func 108) #[] #[],.int .i64 (-2)]),(17,.agg #[.int .i64 2,.func (.func 109) #[] #[],.func (.func 110) #[] #[],.int .i64 (-2)]),(18,.agg #[.int .i64 3,.func (.func 111) #[] #[],.func (.func 112) #[] #[],.int .i64 (-2)]),(19,.agg #[.int .i64 3,.func (.func 113) #[] #[],.func (.func 114) #[] #[],.int .i64 (-2)]),(20,.agg #[.int .i64 3,.func (.func 115) #[] #[],.func (.func 108) #[] #[],.int .i64 (-2)]),(21,.agg #[.int .i64 3,.func (.func 116) #[] #[],.func (.func 117) #[] #[],.int .i64 (-2)]),(22,.agg #[.int .i64 3,.func (.func 118) #[] #[],.func (.func 104) #[] #[],.int .i64 (-2)]),(23,.agg #[.int .i64 3,.func (.func 119) #[] #[],.func (.func 120) #[] #[],.int .i64 (-2)])]=some trTab:=by kernel_rfl
theorem aGT(w:World):Calls Tryz.prog 55 #[] w fun e w'=>e=.returned (.agg trTab)∧Ext w w':=by
 have hi:=hD zJ
 go_enter Tryz.func55,Tryz.ntmps55
 go_wp2_with (first|fail|((with_reducible refine cJ 117 ?_);refine bG rfl 117 _ rfl [(0,.agg #[.int .i64 (-1),.func (.func 82) #[] #[],.func (.func 83) #[] #[],.int .i64 0]),(1,.agg #[.int .i64 (-1),.func (.func 84) #[] #[],.func (.func 85) #[] #[],.int .i64 2]),(2,.agg #[.int .i64 (-1),.func (.func 86) #[] #[],.func (.func 87) #[] #[],.int .i64 3]),(3,.agg #[.int .i64 (-1),.func (.func 88) #[] #[],.func (.func 83) #[] #[],.int .i64 4]),(4,.agg #[.int .i64 0,.func (.func 89) #[] #[],.func (.func 90) #[] #[],.int .i64 1]),(5,.agg #[.int .i64 1,.func (.func 91) #[] #[],.func (.func 90) #[] #[],.int .i64 1]),(6,.agg #[.int .i64 4,.func (.func 89) #[] #[],.func (.func 92) #[] #[],.int .i64 5]),(7,.agg #[.int .i64 5,.func (.func 93) #[] #[],.func (.func 94) #[] #[],.int .i64 (-2)]),(8,.agg #[.int .i64 5,.func (.func 95) #[] #[],.func (.func 96) #[] #[],.int .i64 (-2)]),(9,.agg #[.int .i64 5,.func (.func 97) #[] #[],.func (.func 98) #[] #[],.int .i64 (-2)]),(10,.agg #[.int .i64 5,.func (.func 99) #[] #[],.func (.func 92) #[] #[],.int .i64 5]),(11,.agg #[.int .i64 2,.func (.func 93) #[] #[],.func (.func 94) #[] #[],.int .i64 (-2)]),(12,.agg #[.int .i64 2,.func (.func 95) #[] #[],.func (.func 100) #[] #[],.int .i64 (-2)]),(13,.agg #[.int .i64 2,.func (.func 101) #[] #[],.func (.func 102) #[] #[],.int .i64 (-2)]),(14,.agg #[.int .i64 2,.func (.func 103) #[] #[],.func (.func 104) #[] #[],.int .i64 (-2)]),(15,.agg #[.int .i64 2,.func (.func 105) #[] #[],.func (.func 106) #[] #[],.int .i64 (-2)]),(16,.agg #[.int .i64 2,.func (.func 107) #[] #[],.func (.func 108) #[] #[],.int .i64 (-2)]),(17,.agg #[.int .i64 2,.func (.func 109) #[] #[],.func (.func 110) #[] #[],.int .i64 (-2)]),(18,.agg #[.int .i64 3,.func (.func 111) #[] #[],.func (.func 112) #[] #[],.int .i64 (-2)]),(19,.agg #[.int .i64 3,.func (.func 113) #[] #[],.func (.func 114) #[] #[],.int .i64 (-2)]),(20,.agg #[.int .i64 3,.func (.func 115) #[] #[],.func (.func 108) #[] #[],.int .i64 (-2)]),(21,.agg #[.int .i64 3,.func (.func 116) #[] #[],.func (.func 117) #[] #[],.int .i64 (-2)]),(22,.agg #[.int .i64 3,.func (.func 118) #[] #[],.func (.func 104) #[] #[],.int .i64 (-2)]),(23,.agg #[.int .i64 3,.func (.func 119) #[] #[],.func (.func 120) #[] #[],.int .i64 (-2)])] rfl _ aD8 ?_)|((with_reducible refine aD 117 ?_);refine aE rfl rfl 117 _ _ _ rfl _ trTab _ rfl ?_ rfl hi.out rfl rfl ?_;· rfl))
 exact bodyPost_ret (results_cell_row rfl _ _ _ _ trTab (0,0) _ rfl (heap_alloc_new _ _) Tryz.underlying117 rfl hi.out) rfl ⟨rfl,(Ext.refl w).alloc _⟩
def wB:Nat→Int
 | 0=>(-1)
 | 1=>(-1)
 | 2=>(-1)
 | 3=>(-1)
 | 4=>0
 | 5=>1
 | 6=>4
 | 7=>5
 | 8=>5
 | 9=>5
 | 10=>5
 | 11=>2
 | 12=>2
 | 13=>2
 | 14=>2
 | 15=>2
 | 16=>2
 | 17=>2
 | 18=>3
 | 19=>3
 | 20=>3
 | 21=>3
 | 22=>3
 | _=>3
def trH:Nat→FuncId
 | 0=>82
 | 1=>84
 | 2=>86
 | 3=>88
 | 4=>89
 | 5=>91
 | 6=>89
 | 7=>93
 | 8=>95
 | 9=>97
 | 10=>99
 | 11=>93
 | 12=>95
 | 13=>101
 | 14=>103
 | 15=>105
 | 16=>107
 | 17=>109
 | 18=>111
 | 19=>113
 | 20=>115
 | 21=>116
 | 22=>118
 | _=>119
def trD:Nat→FuncId
 | 0=>83
 | 1=>85
 | 2=>87
 | 3=>83
 | 4=>90
 | 5=>90
 | 6=>92
 | 7=>94
 | 8=>96
 | 9=>98
 | 10=>92
 | 11=>94
 | 12=>100
 | 13=>102
 | 14=>104
 | 15=>106
 | 16=>108
 | 17=>110
 | 18=>112
 | 19=>114
 | 20=>108
 | 21=>117
 | 22=>104
 | _=>120
def uF:Nat→Int
 | 0=>0
 | 1=>2
 | 2=>3
 | 3=>4
 | 4=>1
 | 5=>1
 | 6=>5
 | 7=>(-2)
 | 8=>(-2)
 | 9=>(-2)
 | 10=>5
 | 11=>(-2)
 | 12=>(-2)
 | 13=>(-2)
 | 14=>(-2)
 | 15=>(-2)
 | 16=>(-2)
 | 17=>(-2)
 | 18=>(-2)
 | 19=>(-2)
 | 20=>(-2)
 | 21=>(-2)
 | 22=>(-2)
 | _=>(-2)
theorem aD9(j:Nat)(hj:j<24):trTab[j*4]?=some (.int .i64 (wB j))∧trTab[j*4+1]?=some (.func (.func (trH j)) #[] #[])∧trTab[j*4+2]?=some (.func (.func (trD j)) #[] #[])∧trTab[j*4+3]?=some (.int .i64 (uF j)):=by
 rcases(by omega:j=0∨j=1∨j=2∨j=3∨j=4∨j=5∨j=6∨j=7∨j=8∨j=9∨j=10∨j=11∨j=12∨j=13∨j=14∨j=15∨j=16∨j=17∨j=18∨j=19∨j=20∨j=21∨j=22∨j=23)with rfl|rfl|rfl|rfl|rfl|rfl|rfl|rfl|rfl|rfl|rfl|rfl|rfl|rfl|rfl|rfl|rfl|rfl|rfl|rfl|rfl|rfl|rfl|rfl<;>exact⟨rfl,rfl,rfl,rfl⟩
theorem aEA(t:Array Value)(hs:t.size=87):t=#[t.getD 0 undef,t.getD 1 undef,t.getD 2 undef,t.getD 3 undef,t.getD 4 undef,t.getD 5 undef,t.getD 6 undef,t.getD 7 undef,t.getD 8 undef,t.getD 9 undef,t.getD 10 undef,t.getD 11 undef,t.getD 12 undef,t.getD 13 undef,t.getD 14 undef,t.getD 15 undef,t.getD 16 undef,t.getD 17 undef,t.getD 18 undef,t.getD 19 undef,t.getD 20 undef,t.getD 21 undef,t.getD 22 undef,t.getD 23 undef,t.getD 24 undef,t.getD 25 undef,t.getD 26 undef,t.getD 27 undef,t.getD 28 undef,t.getD 29 undef,t.getD 30 undef,t.getD 31 undef,t.getD 32 undef,t.getD 33 undef,t.getD 34 undef,t.getD 35 undef,t.getD 36 undef,t.getD 37 undef,t.getD 38 undef,t.getD 39 undef,t.getD 40 undef,t.getD 41 undef,t.getD 42 undef,t.getD 43 undef,t.getD 44 undef,t.getD 45 undef,t.getD 46 undef,t.getD 47 undef,t.getD 48 undef,t.getD 49 undef,t.getD 50 undef,t.getD 51 undef,t.getD 52 undef,t.getD 53 undef,t.getD 54 undef,t.getD 55 undef,t.getD 56 undef,t.getD 57 undef,t.getD 58 undef,t.getD 59 undef,t.getD 60 undef,t.getD 61 undef,t.getD 62 undef,t.getD 63 undef,t.getD 64 undef,t.getD 65 undef,t.getD 66 undef,t.getD 67 undef,t.getD 68 undef,t.getD 69 undef,t.getD 70 undef,t.getD 71 undef,t.getD 72 undef,t.getD 73 undef,t.getD 74 undef,t.getD 75 undef,t.getD 76 undef,t.getD 77 undef,t.getD 78 undef,t.getD 79 undef,t.getD 80 undef,t.getD 81 undef,t.getD 82 undef,t.getD 83 undef,t.getD 84 undef,t.getD 85 undef,t.getD 86 undef]:=by
 apply Array.ext
 ·rw[hs];rfl
 ·intro i h1 h2
  have e:t[i]=t.getD i undef:=by simp[Array.getD,h1]
  rw[e]
  have h3:i<87:=by rw[←hs];exact h1
  clear h1 e hs
  revert h2
  match i,h3 with
  | 0,_=>exact fun _=>rfl
  | 1,_=>exact fun _=>rfl
  | 2,_=>exact fun _=>rfl
  | 3,_=>exact fun _=>rfl
  | 4,_=>exact fun _=>rfl
  | 5,_=>exact fun _=>rfl
  | 6,_=>exact fun _=>rfl
  | 7,_=>exact fun _=>rfl
  | 8,_=>exact fun _=>rfl
  | 9,_=>exact fun _=>rfl
  | 10,_=>exact fun _=>rfl
  | 11,_=>exact fun _=>rfl
  | 12,_=>exact fun _=>rfl
  | 13,_=>exact fun _=>rfl
  | 14,_=>exact fun _=>rfl
  | 15,_=>exact fun _=>rfl
  | 16,_=>exact fun _=>rfl
  | 17,_=>exact fun _=>rfl
  | 18,_=>exact fun _=>rfl
  | 19,_=>exact fun _=>rfl
  | 20,_=>exact fun _=>rfl
  | 21,_=>exact fun _=>rfl
  | 22,_=>exact fun _=>rfl
  | 23,_=>exact fun _=>rfl
  | 24,_=>exact fun _=>rfl
  | 25,_=>exact fun _=>rfl
  | 26,_=>exact fun _=>rfl
  | 27,_=>exact fun _=>rfl
  | 28,_=>exact fun _=>rfl
  | 29,_=>exact fun _=>rfl
  | 30,_=>exact fun _=>rfl
  | 31,_=>exact fun _=>rfl
  | 32,_=>exact fun _=>rfl
  | 33,_=>exact fun _=>rfl
  | 34,_=>exact fun _=>rfl
  | 35,_=>exact fun _=>rfl
  | 36,_=>exact fun _=>rfl
  | 37,_=>exact fun _=>rfl
  | 38,_=>exact fun _=>rfl
  | 39,_=>exact fun _=>rfl
  | 40,_=>exact fun _=>rfl
  | 41,_=>exact fun _=>rfl
  | 42,_=>exact fun _=>rfl
  | 43,_=>exact fun _=>rfl
  | 44,_=>exact fun _=>rfl
  | 45,_=>exact fun _=>rfl
  | 46,_=>exact fun _=>rfl
  | 47,_=>exact fun _=>rfl
  | 48,_=>exact fun _=>rfl
  | 49,_=>exact fun _=>rfl
  | 50,_=>exact fun _=>rfl
  | 51,_=>exact fun _=>rfl
  | 52,_=>exact fun _=>rfl
  | 53,_=>exact fun _=>rfl
  | 54,_=>exact fun _=>rfl
  | 55,_=>exact fun _=>rfl
  | 56,_=>exact fun _=>rfl
  | 57,_=>exact fun _=>rfl
  | 58,_=>exact fun _=>rfl
  | 59,_=>exact fun _=>rfl
  | 60,_=>exact fun _=>rfl
  | 61,_=>exact fun _=>rfl
  | 62,_=>exact fun _=>rfl
  | 63,_=>exact fun _=>rfl
  | 64,_=>exact fun _=>rfl
  | 65,_=>exact fun _=>rfl
  | 66,_=>exact fun _=>rfl
  | 67,_=>exact fun _=>rfl
  | 68,_=>exact fun _=>rfl
  | 69,_=>exact fun _=>rfl
  | 70,_=>exact fun _=>rfl
  | 71,_=>exact fun _=>rfl
  | 72,_=>exact fun _=>rfl
  | 73,_=>exact fun _=>rfl
  | 74,_=>exact fun _=>rfl
  | 75,_=>exact fun _=>rfl
  | 76,_=>exact fun _=>rfl
  | 77,_=>exact fun _=>rfl
  | 78,_=>exact fun _=>rfl
  | 79,_=>exact fun _=>rfl
  | 80,_=>exact fun _=>rfl
  | 81,_=>exact fun _=>rfl
  | 82,_=>exact fun _=>rfl
  | 83,_=>exact fun _=>rfl
  | 84,_=>exact fun _=>rfl
  | 85,_=>exact fun _=>rfl
  | 86,_=>exact fun _=>rfl
  | n+87,h=>exact absurd h (by omega)
theorem uG(j:Nat)(hj:j<24)(v:Value)(w:World):(callFunc (trH j) #[v]).run Tryz.prog w=.ok (Next.enter (trH j) #[v]) w:=by
 rcases(by omega:j=0∨j=1∨j=2∨j=3∨j=4∨j=5∨j=6∨j=7∨j=8∨j=9∨j=10∨j=11∨j=12∨j=13∨j=14∨j=15∨j=16∨j=17∨j=18∨j=19∨j=20∨j=21∨j=22∨j=23)with rfl|rfl|rfl|rfl|rfl|rfl|rfl|rfl|rfl|rfl|rfl|rfl|rfl|rfl|rfl|rfl|rfl|rfl|rfl|rfl|rfl|rfl|rfl|rfl<;>kernel_rfl
theorem uH(j:Nat)(hj:j<24)(v:Value)(w:World):(callFunc (trD j) #[v]).run Tryz.prog w=.ok (Next.enter (trD j) #[v]) w:=by
 rcases(by omega:j=0∨j=1∨j=2∨j=3∨j=4∨j=5∨j=6∨j=7∨j=8∨j=9∨j=10∨j=11∨j=12∨j=13∨j=14∨j=15∨j=16∨j=17∨j=18∨j=19∨j=20∨j=21∨j=22∨j=23)with rfl|rfl|rfl|rfl|rfl|rfl|rfl|rfl|rfl|rfl|rfl|rfl|rfl|rfl|rfl|rfl|rfl|rfl|rfl|rfl|rfl|rfl|rfl|rfl<;>kernel_rfl
theorem xB{P:Program}{a:Act}{w:World}{Q:Exit→Act→World→Prop}{c X:Code}(l:Nat)(J:Act→World→Prop)(μ:Act→World→Nat)(hf:findLabel c l=some (.seq .skip X))(pass:∀a w,J a w→X.wp P (Exit.jump l (fun a' w'=>J a' w'∧μ a' w'<μ a w) Q) a w)(first:(∀a w,J a w→X.wp P (Exit.jump l J Q) a w)→c.wp P (Exit.jump l J Q) a w):(Code.scope c).wp P Q a w :=
 wp_scope_jumps l J μ hf (first (fun a w hJ=>Code.wp_mono (fun e a' w' h=>by
  cases e<;>first|exact h|exact⟨h.1,h.2.1⟩) (pass a w hJ))) (fun a w hJ=>wp_seq (wp_skip (pass a w hJ)))
theorem b8:(Tryz.prog.info? 112).map (·.size)=some 3:=by kernel_rfl
theorem fY(p q:Value)(i:Int)(w:World)(hp:∃x,p=.pointer x)(hq:∃x,q=.pointer x):(Instr.build 112 #[(0,p),(1,q),(2,.int .i64 i)]).run Tryz.prog w=.ok (.agg #[p,q,.int .i64 i]) w:=by
 obtain⟨x,rfl⟩:=hp
 obtain⟨y,rfl⟩:=hq
 kernel_rfl
theorem aJH(w:World)(F:Nat→Prop)(X g k:Nat)(B:Br)(h:BrG w F X g B)(ho:B.ok)(hk:k<B.np)(hk2:k<1000)(hF:∀n,F n→n<w.heap.size)(HB:Nat→Bool)(AB:Nat→Br)(hAB:∀j,j<24→(AB j).ok∧(AB j).np=B.np)(hH:∀j,j<24→∀w1,Ext w w1→Calls Tryz.prog (trH j) #[.agg #[.pointer (some ⟨g,k*89,none⟩),.pointer (some ⟨X,0,none⟩),.int .i64 k]] w1 fun e w2=>e=.returned (.bool (HB j))∧Ext w1 w2)(hD0:∀j,j<24→HB j=true→∀w1,Ext w w1→Calls Tryz.prog (trD j) #[.agg #[.pointer (some ⟨g,k*89,none⟩),.pointer (some ⟨X,0,none⟩),.int .i64 k]] w1 fun e w2=>e=.returned (.tuple #[])∧BrG w2 F X g (AB j)∧Mut F w1 w2)(r:Nat)(hr:r≤24)(hno:∀i,i<r→¬((wB i=-1∨wB i=B.gi k 19)∧HB i=true))(hyes:r<24→(wB r=-1∨wB r=B.gi k 19)∧HB r=true)(RS:Bool × Br)(hRS:(if r=24 then(false,B)else if uF r=-2 then(true,AB r)else(true,(AB r).setp k 19 (.int .i64 (uF r))))=RS)(h44:B.gb k 44=true)(h50:B.gb k 50=false):Calls Tryz.prog 41 #[.pointer (some ⟨X,0,none⟩),.int .i64 k] w (aN w F X g RS):=by
 have HRS:=hD hRS
 clear hRS
 obtain⟨hX,hg,hne⟩:=h.lt
 obtain⟨cap,c17,hc1,hc2⟩:=h.cell17 ho
 have p44:=qb h ho hk 44
 have p50:=qb h ho hk 50
 rw[h44]at p44
 rw[h50]at p50
 have H:=hD h
 have HF:=hD hF
 have HAB:=hD hAB
 have HH:=hD hH
 have HD:=hD hD0
 have HNO:=hD hno
 have HYES:=hD hyes
 have P19:=hD (qi h ho hk 19 rfl)
 have htb:=hD zJ
 clear h hF hAB hH hD0 hno hyes h44 h50
 have hpl:=fun W':World=>fY (.pointer (some ⟨g,k*89,none⟩)) (.pointer (some ⟨X,0,none⟩)) k W' ⟨_,rfl⟩ ⟨_,rfl⟩
 go_enter Tryz.func41,Tryz.ntmps41
 go_wp2_with fail
 obtain⟨J,hJ⟩:∃J:Act→World→Prop,J=(fun a' w'=>∃(j pb lb:Nat),a'.defers=[]∧a'.tmps.size=87∧a'.tmps.getD 0 undef=.pointer (some ⟨X,0,none⟩)∧a'.tmps.getD 1 undef=.int .i64 k∧a'.tmps.getD 4 undef=.bool false∧a'.tmps.getD 5 undef=.pointer (some ⟨pb,0,none⟩)∧a'.tmps.getD 6 undef=.int .i64 (j:Int)∧a'.tmps.getD 7 undef=.pointer (some ⟨lb,0,none⟩)∧j≤24∧Ext w w'∧w.heap.size≤pb∧w.heap.size≤lb∧w'.heap[pb]?=some (.cells #[.pointer (some ⟨g,k*89,none⟩),.pointer (some ⟨X,0,none⟩),.int .i64 k] 112 (0,0))∧w'.heap[lb]?=some (.cells trTab 117 (0,0))∧Hid (∀i,i<j→¬((wB i=-1∨wB i=B.gi k 19)∧HB i=true))):=⟨_,rfl⟩
 obtain⟨M,hM⟩:∃M:Act→World→Nat,M=(fun a' _=>24 - (intOf (a'.tmps.getD 6 undef)).toNat):=⟨_,rfl⟩
 have HJ:=hD hJ
 have HMU:=hD hM
 clear hJ hM
 refine xB 0 J M rfl ?pass ?first
 case first =>
  intro FIRST
  have FI:=hD FIRST
  clear FIRST
  go_wp2_with fail
  refine(aGT _).mono ?_
  rintro e w1 ⟨rfl,hx1⟩
  have hp1:=(hx1.block _ (by simp)).trans (heap_alloc_new w (.cells #[.pointer (some ⟨g,k*89,none⟩),.pointer (some ⟨X,0,none⟩),.int .i64 k] 112))
  have he1:=((Ext.refl w).alloc (.cells #[.pointer (some ⟨g,k*89,none⟩),.pointer (some ⟨X,0,none⟩),.int .i64 k] 112)).trans hx1
  have HP1:=hD hp1
  have HE1:=hD he1
  clear hx1 hp1 he1 c17 p44 p50
  go_wp2_with (first
   | fail
   | ((with_reducible refine aD 117 ?_);refine cL rfl rfl 117 _ _ _ rfl _ trTab _ rfl ?_ rfl htb.out rfl rfl ?_;· rfl
      intro wj hwj
      have hL:wj.heap[w1.heap.size]?=some (.cells trTab 117 (0,0)):=by rw[hwj];exact heap_alloc_new _ _
      have hPB:wj.heap[w.heap.size]?=some (.cells #[.pointer (some ⟨g,k*89,none⟩),.pointer (some ⟨X,0,none⟩),.int .i64 k] 112 (0,0)):=by rw[hwj];exact(heap_alloc_old _ _ (aC HP1.out)).trans HP1.out
      have hEj:Ext w wj:=by rw[hwj];exact HE1.out.alloc _
      have HLj:=hD hL
      have HPBj:=hD hPB
      have HEj:=hD hEj
      clear hwj hL hPB hEj))
  go_wp2_with fail
  go_step3
  rename_i Kk hKk
  refine hKk _ _ (FI.out _ _ ?_)
  rw[HJ.out]
  exact⟨0,w.heap.size,w1.heap.size,rfl,rfl,rfl,rfl,rfl,rfl,rfl,rfl,by omega,HEj.out,Nat.le_refl _,HE1.out.size,HPBj.out,HLj.out,hD (fun i hi=>absurd hi (Nat.not_lt_zero i))⟩
 case pass =>
  intro a' wj hj
  rw[HJ.out]at hj
  obtain⟨j,pb,lb,hdf,hsz,g0,g1,g4,g5,g6,g7,hj24,hEj,hpw,hlw,hPB,hLB,hnm⟩:=hj
  obtain⟨t,df⟩:=a'
  simp only at hdf hsz g0 g1 g4 g5 g6 g7
  subst hdf
  rw[aEA t hsz,g0,g1,g4,g5,g6,g7]
  obtain⟨f,hf⟩:∃f:Nat→Value,f=fun n=>t.getD n undef:=⟨_,rfl⟩
  have hfa:∀n,t.getD n undef=f n:=fun n=>by rw[hf]
  simp only[hfa]
  clear hfa hf g0 g1 g4 g5 g6 g7 hsz
  clear c17 p44 p50
  have HPBj:=hD hPB
  have HLBj:=hD hLB
  have hlb:=aC hLB
  have hpb:=aC hPB
  have hgj:g<wj.heap.size:=nL hg hEj.size
  have HEJ:=hD hEj
  have p19:=(hEj.cell (p:=⟨g,k*89+19,none⟩) hg).trans P19.out
  have d0:wj.cell? ⟨pb,0,none⟩=some (.pointer (some ⟨g,k*89,none⟩)):=(cell_of_row _ _ _ _ _ _ hPB).trans rfl
  clear hPB hLB hEj
  have HN:=hD hnm
  clear hnm
  by_cases h24:j=24
  ·subst h24
   have hr24:r=24:=by
    by_cases hrl:r<24
    ·exact absurd (HYES.out hrl) (HN.out.out r hrl)
    ·omega
   have hres:RS=(false,B):=by rw[←HRS.out,if_pos hr24]
   subst hres
   go_wp2_with fail
   try rw[Exit.noGoto_ret]
   go_ret
   exact⟨rfl,H.out.ext HEJ.out,HEJ.out.mut F⟩
  have hlt:j<24:=by omega
  have hjb:((j:Int) == 24)=false:=by simp;omega
  obtain⟨t0,t1,t2,t3⟩:=aD9 j hlt
  have c0:=(cell_of_row _ _ (j*4) _ _ _ HLBj.out).trans t0
  have c1:=(cell_of_row _ _ (j*4+1) _ _ _ HLBj.out).trans t1
  have T2:=hD t2
  have T3:=hD t3
  clear t0 t1 t2 t3
  obtain⟨s,hs⟩:∃s,wB j=s:=⟨_,rfl⟩
  obtain⟨st,hst⟩:∃s,B.gi k 19=s:=⟨_,rfl⟩
  rw[hs]at c0
  rw[hst]at p19
  have HSj:=hD hs
  have HST:=hD hst
  clear hs hst
  by_cases hA:s=-1
  ·have hA1:(s != -1)=false:=by rw[hA];decide
   have HA:=hD hA
   clear hA
   go_wp2_with fail
   refine aT (S:=fun W'=>Ext wj W') (by kernel_rfl) ?_
   intro wd hq
   refine aH 0 lb (j*4) rfl hq ?_
   refine aH 1 lb (j*4) rfl hq ?_
   refine aH 2 lb (j*4) rfl hq ?_
   refine tL 3 (_) rfl (aA rfl 3 _ rfl ⟨lb,j*4,none⟩ rfl (.int .i64 s) _ (fun W' hW'=>(hW'.cell (p:=⟨lb,j*4,none⟩) hlb).trans c0) Tryz.underlying3 rfl) hq ?_
   refine tL 4 ((.bool false)) rfl (Or.inl ⟨rfl,fun W' _=>by go_simp⟩) hq ?_
   refine bO 5 ((.bool false)) rfl hq ?_
   refine tL 6 (undef) rfl (Or.inr ⟨rfl,rfl⟩) hq ?_
   refine tL 7 (undef) rfl (Or.inr ⟨rfl,rfl⟩) hq ?_
   refine tL 8 (undef) rfl (Or.inr ⟨rfl,rfl⟩) hq ?_
   refine tL 9 (undef) rfl (Or.inr ⟨rfl,rfl⟩) hq ?_
   refine tL 10 (undef) rfl (Or.inr ⟨rfl,rfl⟩) hq ?_
   refine tL 11 (undef) rfl (Or.inr ⟨rfl,rfl⟩) hq ?_
   refine tL 12 (undef) rfl (Or.inr ⟨rfl,rfl⟩) hq ?_
   refine tL 13 (undef) rfl (Or.inr ⟨rfl,rfl⟩) hq ?_
   refine tL 14 (undef) rfl (Or.inr ⟨rfl,rfl⟩) hq ?_
   refine tL 15 (undef) rfl (Or.inr ⟨rfl,rfl⟩) hq ?_
   refine tL 16 (undef) rfl (Or.inr ⟨rfl,rfl⟩) hq ?_
   refine bO 17 ((.bool false)) rfl hq ?_
   refine bO 18 ((.bool false)) rfl hq ?_
   refine aH 19 lb (j*4) rfl hq ?_
   refine aH 20 lb (j*4) rfl hq ?_
   refine aH 21 lb (j*4+1) rfl hq ?_
   refine tL 22 (_) rfl (aA rfl 113 _ rfl ⟨lb,j*4+1,none⟩ rfl (.func (.func (trH j)) #[] #[]) _ (fun W' hW'=>(hW'.cell (p:=⟨lb,j*4+1,none⟩) hlb).trans c1) Tryz.underlying113 rfl) hq ?_
   refine tL 23 (_) rfl (jC rfl 112 _ rfl pb rfl #[.pointer (some ⟨g,k*89,none⟩),.pointer (some ⟨X,0,none⟩),.int .i64 k] _ _ HPBj.out Tryz.underlying112 rfl b8) hq ?_
   have hcf:=uG j hlt
   refine kI (i:=24) rfl (by rfl) (by kernel_rfl) (fun K hK=>?_)
   go_simp
   refine(HH.out j hlt wd (HEJ.out.trans hq)).mono ?_
   rintro e wy ⟨rfl,hx⟩
   have hq2:=hq.trans hx
   clear hx hq
   refine hK.out _ _ hq2 (fun hHeld=>?_)
   try simp only[ps]
   clear hK K hHeld
   cases hhb:HB j
   ·refine tL 25 ((.bool true)) rfl (Or.inl ⟨rfl,fun W' _=>by go_simp⟩) hq2 ?_
    refine bO 26 ((.bool true)) rfl hq2 ?_
    refine wpAnyH_done (by kernel_rfl) ?_ _
    go_wp2_with fail
    go_step3
    refine⟨rfl,?_,?_⟩
    ·rw [HJ.out]
     exact ⟨j+1,pb,lb,rfl,rfl,rfl,rfl,rfl,rfl,rfl,rfl,by omega,HEJ.out.trans hq2,hpw,hlw,(hq2.block _ hpb).trans HPBj.out,(hq2.block _ hlb).trans HLBj.out,hD (fun i hi=>by
      by_cases e:i=j
      ·subst e
       exact fun hm=>by rw[hhb]at hm;exact absurd hm.2 (by simp)
      ·exact HN.out.out i (by omega))⟩
    ·rw[HMU.out]
     show 24 - (intOf (Value.int IntKind.i64 ((j:Int)+1))).toNat<24 - (intOf (Value.int IntKind.i64 (j:Int))).toNat
     simp[intOf]
     omega
   ·refine tL 25 ((.bool false)) rfl (Or.inl ⟨rfl,fun W' _=>by go_simp⟩) hq2 ?_
    refine bO 26 ((.bool false)) rfl hq2 ?_
    refine wpAnyH_done (by kernel_rfl) ?_ _
    obtain rfl:r=j:=by
     by_cases h1:r<j
     ·exact absurd (HYES.out (by omega)) (HN.out.out r h1)
     ·by_cases h2:j<r
      ·exact absurd ⟨.inl (HSj.out.trans HA.out),hhb⟩ (HNO.out j h2)
      ·omega
    have c2:=(cell_of_row _ _ (r*4+2) _ _ _ HLBj.out).trans T2.out
    have hfl:¬F lb:=fun hh=>by have:=HF.out _ hh;omega
    have hfp:¬F pb:=fun hh=>by have:=HF.out _ hh;omega
    have hcf:=uH r hlt
    have hrb:((r:Int) == 24)=false:=hjb
    have HLy:=hD ((hq2.block _ hlb).trans HLBj.out)
    have HPy:=hD ((hq2.block _ hpb).trans HPBj.out)
    have hly:=aC HLy.out
    have hpy:=aC HPy.out
    have hEy:=hD (HEJ.out.trans hq2)
    have hc2:=hD ((hq2.cell (p:=⟨lb,r*4+2,none⟩) hlb).trans c2)
    clear hq2 c2 c0 c1 p19 d0
    go_wp2_with fail
    refine aT (S:=fun W'=>Mut F wy W') (by kernel_rfl) ?_
    intro wd2 hq3
    have hm3:=hq3.mut F
    have hEd:=hD (hEy.out.trans hq3)
    clear hq3
    refine bO 0 ((.int .i64 (r:Int))) rfl hm3 ?_
    refine tL 1 ((.pointer (some ⟨lb,r*4,none⟩))) rfl (Or.inl ⟨rfl,fun W' _=>by go_simp;exact fun h=>absurd h (by omega)⟩) hm3 ?_
    refine aH 2 lb (r*4+2) rfl hm3 ?_
    refine tL 3 (_) rfl (aA rfl 114 _ rfl ⟨lb,r*4+2,none⟩ rfl (.func (.func (trD r)) #[] #[]) _ (fun W' hW'=>(hW'.cell (p:=⟨lb,r*4+2,none⟩) hly hfl).trans hc2.out) Tryz.underlying114 rfl) hm3 ?_
    refine tL 4 (_) rfl (a4 rfl 112 _ rfl pb rfl #[.pointer (some ⟨g,k*89,none⟩),.pointer (some ⟨X,0,none⟩),.int .i64 k] 112 _ (fun W' hW'=>(hW'.heap hpy hfp).trans HPy.out) Tryz.underlying112 rfl b8) hm3 ?_
    refine bB (i:=5) rfl rfl (by kernel_rfl) (fun K hK=>?_)
    go_simp
    refine(HD.out r hlt hhb wd2 hEd.out).mono ?_
    rintro e wz ⟨rfl,hBz,hmz⟩
    have hm4:=hm3.trans hmz
    refine hK.out _ _ hm4 (fun hHeld=>?_)
    try simp only[ps]
    clear hK K hHeld
    refine wpAnyH_done (by kernel_rfl) ?_ _
    have HBz:=hD hBz
    have HMz:=hD ((hEy.out.mut F).trans hm4)
    have HLz:=hD ((hm4.heap hly hfl).trans HLy.out)
    have HPz:=hD ((hm4.heap hpy hfp).trans HPy.out)
    have c3:=(cell_of_row _ _ (r*4+3) _ _ _ HLz.out).trans T3.out
    clear hBz hmz hm4 hm3
    by_cases hn2:uF r=-2
    ·have hres:RS=(true,AB r):=by rw[←HRS.out,if_neg h24,if_pos hn2]
     subst hres
     have hnb:(uF r != -2)=false:=by rw[hn2];decide
     clear hn2
     go_wp2_with fail
     try rw[Exit.noGoto_ret]
     go_ret
     exact⟨rfl,HBz.out,HMz.out⟩
    ·have hres:RS=(true,(AB r).setp k 19 (.int .i64 (uF r))):=by rw[←HRS.out,if_neg h24,if_neg hn2]
     subst hres
     have hnb:(uF r != -2)=true:=by simpa using hn2
     clear hn2
     go_wp2_with fail
     refine aS 9 (by kernel_rfl) (by kernel_rfl) ?_
     intro y hy
     have hyx:Ext wz y:=by
      rw[hy]
      exact(Ext.refl _).drew
     clear hy
     obtain⟨okA,hnA⟩:=HAB.out r hlt
     have hkA:k<(AB r).np:=by rw[hnA];exact hk
     have HY:=hD (HBz.out.ext hyx)
     have HMY:=hD (HMz.out.trans (hyx.mut F))
     have e0:y.cell? ⟨pb,0,none⟩=some (.pointer (some ⟨g,k*89,none⟩)):=(hyx.cell (p:=⟨pb,0,none⟩) (aC HPz.out)).trans ((cell_of_row _ _ _ _ _ _ HPz.out).trans rfl)
     have e3:=xc hyx (aC HLz.out) c3
     have e19:=(HY.out.cellg (i:=k*89+19) (bZ hkA (by decide))).trans (okA.gi (k:=k) hkA 19 rfl)
     have efr:=HY.out.frozen
     clear c3 hyx
     simp only[List.take_succ_cons,List.take_zero,List.drop_succ_cons,List.drop_zero]
     have hr24:(r:Int)<24:=by omega
     have hr24n:¬(24:Int)≤(r:Int):=by omega
     repeat still_step
     refine wpStill_nil ?_
     go_wp2_with fail
     try rw[Exit.noGoto_ret]
     go_ret
     exact⟨rfl,HY.out.setp (k:=k) (j:=19) hkA (by decide) _,HMY.out.setCell (.inl HY.out.F2) _⟩
  have hA1:(s != -1)=true:=by simpa using hA
  by_cases hB:s=st
  ·have hB1:(s != st)=false:=by rw[hB];simp
   have HBB:=hD hB
   clear hB
   go_wp2_with fail
   refine aT (S:=fun W'=>Ext wj W') (by kernel_rfl) ?_
   intro wd hq
   refine aH 0 lb (j*4) rfl hq ?_
   refine aH 1 lb (j*4) rfl hq ?_
   refine aH 2 lb (j*4) rfl hq ?_
   refine tL 3 (_) rfl (aA rfl 3 _ rfl ⟨lb,j*4,none⟩ rfl (.int .i64 s) _ (fun W' hW'=>(hW'.cell (p:=⟨lb,j*4,none⟩) hlb).trans c0) Tryz.underlying3 rfl) hq ?_
   refine tL 4 ((.bool true)) rfl (Or.inl ⟨rfl,fun W' _=>by go_simp⟩) hq ?_
   refine bO 5 ((.bool true)) rfl hq ?_
   refine aH 6 lb (j*4) rfl hq ?_
   refine aH 7 lb (j*4) rfl hq ?_
   refine aH 8 lb (j*4) rfl hq ?_
   refine tL 9 (_) rfl (aA rfl 3 _ rfl ⟨lb,j*4,none⟩ rfl (.int .i64 s) _ (fun W' hW'=>(hW'.cell (p:=⟨lb,j*4,none⟩) hlb).trans c0) Tryz.underlying3 rfl) hq ?_
   refine aH 10 pb 0 rfl hq ?_
   refine tL 11 (_) rfl (aA rfl 79 _ rfl ⟨pb,0,none⟩ rfl (.pointer (some ⟨g,k*89,none⟩)) _ (fun W' hW'=>(hW'.cell (p:=⟨pb,0,none⟩) hpb).trans d0) Tryz.underlying79 rfl) hq ?_
   refine aH 12 g (k*89) rfl hq ?_
   refine aH 13 g (k*89+15) rfl hq ?_
   refine aH 14 g (k*89+19) rfl hq ?_
   refine tL 15 (_) rfl (aA rfl 3 _ rfl ⟨g,k*89+19,none⟩ rfl (.int .i64 st) _ (fun W' hW'=>(hW'.cell (p:=⟨g,k*89+19,none⟩) hgj).trans p19) Tryz.underlying3 rfl) hq ?_
   refine tL 16 ((.bool false)) rfl (Or.inl ⟨rfl,fun W' _=>by go_simp⟩) hq ?_
   refine bO 17 ((.bool false)) rfl hq ?_
   refine bO 18 ((.bool false)) rfl hq ?_
   refine aH 19 lb (j*4) rfl hq ?_
   refine aH 20 lb (j*4) rfl hq ?_
   refine aH 21 lb (j*4+1) rfl hq ?_
   refine tL 22 (_) rfl (aA rfl 113 _ rfl ⟨lb,j*4+1,none⟩ rfl (.func (.func (trH j)) #[] #[]) _ (fun W' hW'=>(hW'.cell (p:=⟨lb,j*4+1,none⟩) hlb).trans c1) Tryz.underlying113 rfl) hq ?_
   refine tL 23 (_) rfl (jC rfl 112 _ rfl pb rfl #[.pointer (some ⟨g,k*89,none⟩),.pointer (some ⟨X,0,none⟩),.int .i64 k] _ _ HPBj.out Tryz.underlying112 rfl b8) hq ?_
   have hcf:=uG j hlt
   refine kI (i:=24) rfl (by rfl) (by kernel_rfl) (fun K hK=>?_)
   go_simp
   refine(HH.out j hlt wd (HEJ.out.trans hq)).mono ?_
   rintro e wy ⟨rfl,hx⟩
   have hq2:=hq.trans hx
   clear hx hq
   refine hK.out _ _ hq2 (fun hHeld=>?_)
   try simp only[ps]
   clear hK K hHeld
   cases hhb:HB j
   ·refine tL 25 ((.bool true)) rfl (Or.inl ⟨rfl,fun W' _=>by go_simp⟩) hq2 ?_
    refine bO 26 ((.bool true)) rfl hq2 ?_
    refine wpAnyH_done (by kernel_rfl) ?_ _
    go_wp2_with fail
    go_step3
    refine⟨rfl,?_,?_⟩
    ·rw [HJ.out]
     exact ⟨j+1,pb,lb,rfl,rfl,rfl,rfl,rfl,rfl,rfl,rfl,by omega,HEJ.out.trans hq2,hpw,hlw,(hq2.block _ hpb).trans HPBj.out,(hq2.block _ hlb).trans HLBj.out,hD (fun i hi=>by
      by_cases e:i=j
      ·subst e
       exact fun hm=>by rw[hhb]at hm;exact absurd hm.2 (by simp)
      ·exact HN.out.out i (by omega))⟩
    ·rw[HMU.out]
     show 24 - (intOf (Value.int IntKind.i64 ((j:Int)+1))).toNat<24 - (intOf (Value.int IntKind.i64 (j:Int))).toNat
     simp[intOf]
     omega
   ·refine tL 25 ((.bool false)) rfl (Or.inl ⟨rfl,fun W' _=>by go_simp⟩) hq2 ?_
    refine bO 26 ((.bool false)) rfl hq2 ?_
    refine wpAnyH_done (by kernel_rfl) ?_ _
    obtain rfl:r=j:=by
     by_cases h1:r<j
     ·exact absurd (HYES.out (by omega)) (HN.out.out r h1)
     ·by_cases h2:j<r
      ·exact absurd ⟨.inr (by rw[HSj.out,HST.out];exact HBB.out),hhb⟩ (HNO.out j h2)
      ·omega
    have c2:=(cell_of_row _ _ (r*4+2) _ _ _ HLBj.out).trans T2.out
    have hfl:¬F lb:=fun hh=>by have:=HF.out _ hh;omega
    have hfp:¬F pb:=fun hh=>by have:=HF.out _ hh;omega
    have hcf:=uH r hlt
    have hrb:((r:Int) == 24)=false:=hjb
    have HLy:=hD ((hq2.block _ hlb).trans HLBj.out)
    have HPy:=hD ((hq2.block _ hpb).trans HPBj.out)
    have hly:=aC HLy.out
    have hpy:=aC HPy.out
    have hEy:=hD (HEJ.out.trans hq2)
    have hc2:=hD ((hq2.cell (p:=⟨lb,r*4+2,none⟩) hlb).trans c2)
    clear hq2 c2 c0 c1 p19 d0
    go_wp2_with fail
    refine aT (S:=fun W'=>Mut F wy W') (by kernel_rfl) ?_
    intro wd2 hq3
    have hm3:=hq3.mut F
    have hEd:=hD (hEy.out.trans hq3)
    clear hq3
    refine bO 0 ((.int .i64 (r:Int))) rfl hm3 ?_
    refine tL 1 ((.pointer (some ⟨lb,r*4,none⟩))) rfl (Or.inl ⟨rfl,fun W' _=>by go_simp;exact fun h=>absurd h (by omega)⟩) hm3 ?_
    refine aH 2 lb (r*4+2) rfl hm3 ?_
    refine tL 3 (_) rfl (aA rfl 114 _ rfl ⟨lb,r*4+2,none⟩ rfl (.func (.func (trD r)) #[] #[]) _ (fun W' hW'=>(hW'.cell (p:=⟨lb,r*4+2,none⟩) hly hfl).trans hc2.out) Tryz.underlying114 rfl) hm3 ?_
    refine tL 4 (_) rfl (a4 rfl 112 _ rfl pb rfl #[.pointer (some ⟨g,k*89,none⟩),.pointer (some ⟨X,0,none⟩),.int .i64 k] 112 _ (fun W' hW'=>(hW'.heap hpy hfp).trans HPy.out) Tryz.underlying112 rfl b8) hm3 ?_
    refine bB (i:=5) rfl rfl (by kernel_rfl) (fun K hK=>?_)
    go_simp
    refine(HD.out r hlt hhb wd2 hEd.out).mono ?_
    rintro e wz ⟨rfl,hBz,hmz⟩
    have hm4:=hm3.trans hmz
    refine hK.out _ _ hm4 (fun hHeld=>?_)
    try simp only[ps]
    clear hK K hHeld
    refine wpAnyH_done (by kernel_rfl) ?_ _
    have HBz:=hD hBz
    have HMz:=hD ((hEy.out.mut F).trans hm4)
    have HLz:=hD ((hm4.heap hly hfl).trans HLy.out)
    have HPz:=hD ((hm4.heap hpy hfp).trans HPy.out)
    have c3:=(cell_of_row _ _ (r*4+3) _ _ _ HLz.out).trans T3.out
    clear hBz hmz hm4 hm3
    by_cases hn2:uF r=-2
    ·have hres:RS=(true,AB r):=by rw[←HRS.out,if_neg h24,if_pos hn2]
     subst hres
     have hnb:(uF r != -2)=false:=by rw[hn2];decide
     clear hn2
     go_wp2_with fail
     try rw[Exit.noGoto_ret]
     go_ret
     exact⟨rfl,HBz.out,HMz.out⟩
    ·have hres:RS=(true,(AB r).setp k 19 (.int .i64 (uF r))):=by rw[←HRS.out,if_neg h24,if_neg hn2]
     subst hres
     have hnb:(uF r != -2)=true:=by simpa using hn2
     clear hn2
     go_wp2_with fail
     refine aS 9 (by kernel_rfl) (by kernel_rfl) ?_
     intro y hy
     have hyx:Ext wz y:=by
      rw[hy]
      exact(Ext.refl _).drew
     clear hy
     obtain⟨okA,hnA⟩:=HAB.out r hlt
     have hkA:k<(AB r).np:=by rw[hnA];exact hk
     have HY:=hD (HBz.out.ext hyx)
     have HMY:=hD (HMz.out.trans (hyx.mut F))
     have e0:y.cell? ⟨pb,0,none⟩=some (.pointer (some ⟨g,k*89,none⟩)):=(hyx.cell (p:=⟨pb,0,none⟩) (aC HPz.out)).trans ((cell_of_row _ _ _ _ _ _ HPz.out).trans rfl)
     have e3:=xc hyx (aC HLz.out) c3
     have e19:=(HY.out.cellg (i:=k*89+19) (bZ hkA (by decide))).trans (okA.gi (k:=k) hkA 19 rfl)
     have efr:=HY.out.frozen
     clear c3 hyx
     simp only[List.take_succ_cons,List.take_zero,List.drop_succ_cons,List.drop_zero]
     have hr24:(r:Int)<24:=by omega
     have hr24n:¬(24:Int)≤(r:Int):=by omega
     repeat still_step
     refine wpStill_nil ?_
     go_wp2_with fail
     try rw[Exit.noGoto_ret]
     go_ret
     exact⟨rfl,HY.out.setp (k:=k) (j:=19) hkA (by decide) _,HMY.out.setCell (.inl HY.out.F2) _⟩
  ·have hB1:(s != st)=true:=by simpa using hB
   go_wp2_with fail
   refine aT (S:=fun W'=>Ext wj W') (by kernel_rfl) ?_
   intro wd hq
   refine aH 0 lb (j*4) rfl hq ?_
   refine aH 1 lb (j*4) rfl hq ?_
   refine aH 2 lb (j*4) rfl hq ?_
   refine tL 3 (_) rfl (aA rfl 3 _ rfl ⟨lb,j*4,none⟩ rfl (.int .i64 s) _ (fun W' hW'=>(hW'.cell (p:=⟨lb,j*4,none⟩) hlb).trans c0) Tryz.underlying3 rfl) hq ?_
   refine tL 4 ((.bool true)) rfl (Or.inl ⟨rfl,fun W' _=>by go_simp⟩) hq ?_
   refine bO 5 ((.bool true)) rfl hq ?_
   refine aH 6 lb (j*4) rfl hq ?_
   refine aH 7 lb (j*4) rfl hq ?_
   refine aH 8 lb (j*4) rfl hq ?_
   refine tL 9 (_) rfl (aA rfl 3 _ rfl ⟨lb,j*4,none⟩ rfl (.int .i64 s) _ (fun W' hW'=>(hW'.cell (p:=⟨lb,j*4,none⟩) hlb).trans c0) Tryz.underlying3 rfl) hq ?_
   refine aH 10 pb 0 rfl hq ?_
   refine tL 11 (_) rfl (aA rfl 79 _ rfl ⟨pb,0,none⟩ rfl (.pointer (some ⟨g,k*89,none⟩)) _ (fun W' hW'=>(hW'.cell (p:=⟨pb,0,none⟩) hpb).trans d0) Tryz.underlying79 rfl) hq ?_
   refine aH 12 g (k*89) rfl hq ?_
   refine aH 13 g (k*89+15) rfl hq ?_
   refine aH 14 g (k*89+19) rfl hq ?_
   refine tL 15 (_) rfl (aA rfl 3 _ rfl ⟨g,k*89+19,none⟩ rfl (.int .i64 st) _ (fun W' hW'=>(hW'.cell (p:=⟨g,k*89+19,none⟩) hgj).trans p19) Tryz.underlying3 rfl) hq ?_
   refine tL 16 ((.bool true)) rfl (Or.inl ⟨rfl,fun W' _=>by go_simp⟩) hq ?_
   refine bO 17 ((.bool true)) rfl hq ?_
   refine bO 18 ((.bool true)) rfl hq ?_
   refine tL 19 (undef) rfl (Or.inr ⟨rfl,rfl⟩) hq ?_
   refine tL 20 (undef) rfl (Or.inr ⟨rfl,rfl⟩) hq ?_
   refine tL 21 (undef) rfl (Or.inr ⟨rfl,rfl⟩) hq ?_
   refine tL 22 (undef) rfl (Or.inr ⟨rfl,rfl⟩) hq ?_
   refine tL 23 (undef) rfl (Or.inr ⟨rfl,rfl⟩) hq ?_
   refine tL 24 (undef) rfl (Or.inr ⟨rfl,rfl⟩) hq ?_
   refine tL 25 (undef) rfl (Or.inr ⟨rfl,rfl⟩) hq ?_
   refine bO 26 ((.bool true)) rfl hq ?_
   refine wpAnyH_done (by kernel_rfl) ?_ _
   all_goals
    go_wp2_with fail
    go_step3
    refine⟨rfl,?_,?_⟩
    ·rw [HJ.out]
     exact ⟨j+1,pb,lb,rfl,rfl,rfl,rfl,rfl,rfl,rfl,rfl,by omega,HEJ.out.trans hq,hpw,hlw,(hq.block _ hpb).trans HPBj.out,(hq.block _ hlb).trans HLBj.out,hD (fun i hi=>by
      by_cases e:i=j
      ·subst e
       exact fun hm=>by rw[HSj.out,HST.out]at hm;exact hm.1.elim hA hB
      ·exact HN.out.out i (by omega))⟩
    ·rw[HMU.out]
     show 24 - (intOf (Value.int IntKind.i64 ((j:Int)+1))).toNat<24 - (intOf (Value.int IntKind.i64 (j:Int))).toNat
     simp[intOf]
     omega
def aJ(g k X:Nat):Value:=.agg #[.pointer (some ⟨g,k*89,none⟩),.pointer (some ⟨X,0,none⟩),.int .i64 k]
theorem pC(w:World)(F:Nat→Prop)(X g k:Nat)(B:Br)(h:BrG w F X g B)(ho:B.ok)(hk:k<B.np):Calls Tryz.prog 89 #[aJ g k X] w fun e w'=>e=.returned (.bool (!B.gb k 29 && !B.gb k 27))∧Ext w w':=by
 obtain⟨hX,hg,hne⟩:=h.lt
 have p29:=qb h ho hk 29
 have p27:=qb h ho hk 27
 clear h
 obtain⟨x29,e29⟩:∃b,B.gb k 29=b:=⟨_,rfl⟩
 rw[e29]at p29 ⊢
 obtain⟨x27,e27⟩:∃b,B.gb k 27=b:=⟨_,rfl⟩
 rw[e27]at p27 ⊢
 have hs:w.heap.size≠g:=by omega
 unfold aJ
 go_enter Tryz.func89,Tryz.ntmps89
 cases x29
 all_goals
  go_wp2_with fail
  go_ret
  exact⟨by simp,(Ext.refl w).alloc _⟩
theorem uI(w:World)(F:Nat→Prop)(X g k:Nat)(B:Br)(h:BrG w F X g B)(ho:B.ok)(hk:k<B.np)(r:Int):Calls Tryz.prog 146 #[aJ g k X,.int .i64 r] w fun e w'=>e=.returned (.bool (B.gi k 88 == r && B.gi k 87 != r))∧Ext w w':=by
 obtain⟨hX,hg,hne⟩:=h.lt
 have p88:=qi h ho hk 88 rfl
 have p87:=qi h ho hk 87 rfl
 clear h
 obtain⟨x88,e88⟩:∃b,B.gi k 88=b:=⟨_,rfl⟩
 rw[e88]at p88 ⊢
 obtain⟨x87,e87⟩:∃b,B.gi k 87=b:=⟨_,rfl⟩
 rw[e87]at p87 ⊢
 have hs:w.heap.size≠g:=by omega
 unfold aJ
 go_enter Tryz.func146,Tryz.ntmps146
 by_cases h1:x88=r
 ·have h2:(x88 == r)=true:=by simpa using h1
  go_wp2_with fail
  go_ret
  exact⟨by simp[h1],(Ext.refl w).alloc _⟩
 ·have h2:(x88 == r)=false:=by simpa using h1
  go_wp2_with fail
  go_ret
  exact⟨by simp[h1],(Ext.refl w).alloc _⟩
theorem qM(w:World)(F:Nat→Prop)(X g k:Nat)(B:Br)(h:BrG w F X g B)(ho:B.ok)(hk:k<B.np):Calls Tryz.prog 82 #[aJ g k X] w fun e w'=>e=.returned (.bool (B.gi k 88 == 0 && B.gi k 87 != 0))∧Ext w w':=by
 obtain⟨hX,hg,hne⟩:=h.lt
 have H:=hD h
 have PB:=hD fY
 unfold aJ
 go_enter Tryz.func82,Tryz.ntmps82
 go_wp2_with fail
 refine(uI _ F X g k B (H.out.ext ((Ext.refl w).alloc _)) ho hk _).mono ?_
 rintro e w1 ⟨rfl,hx⟩
 go_wp2_with fail
 go_ret
 exact⟨rfl,((Ext.refl w).alloc _).trans hx⟩
theorem aBP(w:World)(F:Nat→Prop)(X g k:Nat)(B:Br)(h:BrG w F X g B)(ho:B.ok)(hk:k<B.np):Calls Tryz.prog 84 #[aJ g k X] w fun e w'=>e=.returned (.bool (B.gi k 88 == 3 && B.gi k 87 != 3))∧Ext w w':=by
 obtain⟨hX,hg,hne⟩:=h.lt
 have H:=hD h
 have PB:=hD fY
 unfold aJ
 go_enter Tryz.func84,Tryz.ntmps84
 go_wp2_with fail
 refine(uI _ F X g k B (H.out.ext ((Ext.refl w).alloc _)) ho hk _).mono ?_
 rintro e w1 ⟨rfl,hx⟩
 go_wp2_with fail
 go_ret
 exact⟨rfl,((Ext.refl w).alloc _).trans hx⟩
theorem oE(w:World)(F:Nat→Prop)(X g k:Nat)(B:Br)(h:BrG w F X g B)(ho:B.ok)(hk:k<B.np):Calls Tryz.prog 86 #[aJ g k X] w fun e w'=>e=.returned (.bool (B.gi k 88 == 4 && B.gi k 87 != 4))∧Ext w w':=by
 obtain⟨hX,hg,hne⟩:=h.lt
 have H:=hD h
 have PB:=hD fY
 unfold aJ
 go_enter Tryz.func86,Tryz.ntmps86
 go_wp2_with fail
 refine(uI _ F X g k B (H.out.ext ((Ext.refl w).alloc _)) ho hk _).mono ?_
 rintro e w1 ⟨rfl,hx⟩
 go_wp2_with fail
 go_ret
 exact⟨rfl,((Ext.refl w).alloc _).trans hx⟩
theorem uJ(w:World)(F:Nat→Prop)(X g k:Nat)(B:Br)(h:BrG w F X g B)(ho:B.ok)(hk:k<B.np):Calls Tryz.prog 93 #[aJ g k X] w fun e w'=>e=.returned (.bool (B.gb k 33 && !B.gb k 22))∧Ext w w':=by
 obtain⟨hX,hg,hne⟩:=h.lt
 have p33:=qb h ho hk 33
 have p22:=qb h ho hk 22
 clear h
 obtain⟨x33,e33⟩:∃b,B.gb k 33=b:=⟨_,rfl⟩
 rw[e33]at p33 ⊢
 obtain⟨x22,e22⟩:∃b,B.gb k 22=b:=⟨_,rfl⟩
 rw[e22]at p22 ⊢
 have hs:w.heap.size≠g:=by omega
 unfold aJ
 go_enter Tryz.func93,Tryz.ntmps93
 cases x33
 all_goals
  go_wp2_with fail
  go_ret
  exact⟨by simp,(Ext.refl w).alloc _⟩
theorem qN(w:World)(F:Nat→Prop)(X g k:Nat)(B:Br)(h:BrG w F X g B)(ho:B.ok)(hk:k<B.np):Calls Tryz.prog 101 #[aJ g k X] w fun e w'=>e=.returned (.bool (!B.gb k 26 && !B.gb k 42))∧Ext w w':=by
 obtain⟨hX,hg,hne⟩:=h.lt
 have p26:=qb h ho hk 26
 have p42:=qb h ho hk 42
 clear h
 obtain⟨x26,e26⟩:∃b,B.gb k 26=b:=⟨_,rfl⟩
 rw[e26]at p26 ⊢
 obtain⟨x42,e42⟩:∃b,B.gb k 42=b:=⟨_,rfl⟩
 rw[e42]at p42 ⊢
 have hs:w.heap.size≠g:=by omega
 unfold aJ
 go_enter Tryz.func101,Tryz.ntmps101
 cases x26
 all_goals
  go_wp2_with fail
  go_ret
  exact⟨by simp,(Ext.refl w).alloc _⟩
theorem qO(w:World)(F:Nat→Prop)(X g k:Nat)(B:Br)(h:BrG w F X g B)(ho:B.ok)(hk:k<B.np):Calls Tryz.prog 107 #[aJ g k X] w fun e w'=>e=.returned (.bool (B.gb k 42 && B.gb k 26))∧Ext w w':=by
 obtain⟨hX,hg,hne⟩:=h.lt
 have p42:=qb h ho hk 42
 have p26:=qb h ho hk 26
 clear h
 obtain⟨x42,e42⟩:∃b,B.gb k 42=b:=⟨_,rfl⟩
 rw[e42]at p42 ⊢
 obtain⟨x26,e26⟩:∃b,B.gb k 26=b:=⟨_,rfl⟩
 rw[e26]at p26 ⊢
 have hs:w.heap.size≠g:=by omega
 unfold aJ
 go_enter Tryz.func107,Tryz.ntmps107
 cases x42
 all_goals
  go_wp2_with fail
  go_ret
  exact⟨by simp,(Ext.refl w).alloc _⟩
theorem uK(w:World)(F:Nat→Prop)(X g k:Nat)(B:Br)(h:BrG w F X g B)(ho:B.ok)(hk:k<B.np):Calls Tryz.prog 111 #[aJ g k X] w fun e w'=>e=.returned (.bool (!B.gb k 26 && !B.gb k 23 && !B.gb k 34 && !B.gb k 32))∧Ext w w':=by
 obtain⟨hX,hg,hne⟩:=h.lt
 have p26:=qb h ho hk 26
 have p23:=qb h ho hk 23
 have p34:=qb h ho hk 34
 have p32:=qb h ho hk 32
 clear h
 obtain⟨x26,e26⟩:∃b,B.gb k 26=b:=⟨_,rfl⟩
 rw[e26]at p26 ⊢
 obtain⟨x23,e23⟩:∃b,B.gb k 23=b:=⟨_,rfl⟩
 rw[e23]at p23 ⊢
 obtain⟨x34,e34⟩:∃b,B.gb k 34=b:=⟨_,rfl⟩
 rw[e34]at p34 ⊢
 obtain⟨x32,e32⟩:∃b,B.gb k 32=b:=⟨_,rfl⟩
 rw[e32]at p32 ⊢
 have hs:w.heap.size≠g:=by omega
 unfold aJ
 go_enter Tryz.func111,Tryz.ntmps111
 cases x26<;>cases x23<;>cases x34
 all_goals
  go_wp2_with fail
  go_ret
  exact⟨by simp,(Ext.refl w).alloc _⟩
theorem sO(w:World)(F:Nat→Prop)(X g k:Nat)(B:Br)(h:BrG w F X g B)(ho:B.ok)(hk:k<B.np):Calls Tryz.prog 88 #[aJ g k X] w fun e w'=>e=.returned (.bool ((B.gi k 88 == 1 && B.gi k 87 != 1) || (B.gi k 88 == 2 && B.gi k 87 != 2)))∧Ext w w':=by
 obtain⟨hX,hg,hne⟩:=h.lt
 have H:=hD h
 have PB:=hD fY
 unfold aJ
 go_enter Tryz.func88,Tryz.ntmps88
 go_wp2_with fail
 refine(uI _ F X g k B (H.out.ext ((Ext.refl w).alloc _)) ho hk _).mono ?_
 rintro e w1 ⟨rfl,hx⟩
 have hp1:=(hx.block _ (by simp)).trans (heap_alloc_new w _)
 have HP1:=hD hp1
 have HX:=hD hx
 clear hx hp1
 cases hc:(B.gi k 88 == 1 && B.gi k 87 != 1)
 ·go_wp2_with (first|fail|((with_reducible refine aW 112 ?_);refine aL rfl 112 _ rfl w.heap.size rfl 112 #[.pointer (some ⟨g,k*89,none⟩),.pointer (some ⟨X,0,none⟩),.int .i64 k] (0,0) _ HP1.out Tryz.underlying112 rfl b8 ?_))
  refine(uI _ F X g k B (H.out.ext (((Ext.refl w).alloc _).trans HX.out)) ho hk _).mono ?_
  rintro e w2 ⟨rfl,hx2⟩
  go_wp2_with fail
  go_ret
  exact⟨by rw[hc];rfl,(((Ext.refl w).alloc _).trans HX.out).trans hx2⟩
 ·go_wp2_with fail
  go_ret
  exact⟨by rw[hc];rfl,((Ext.refl w).alloc _).trans HX.out⟩
theorem sP(w:World)(F:Nat→Prop)(X g k:Nat)(B:Br)(h:BrG w F X g B)(ho:B.ok)(hk:k<B.np):Calls Tryz.prog 87 #[aJ g k X] w fun e w'=>e=.returned (.tuple #[])∧BrG w' F X g (B.setp k 87 (.int .i64 (B.gi k 88)))∧Mut F w w':=by
 obtain⟨hX,hg,hne⟩:=h.lt
 have H:=hD h
 clear h
 unfold aJ
 go_enter Tryz.func87,Tryz.ntmps87
 go_wp2_with fail
 refine aS 9 (by kernel_rfl) (by kernel_rfl) ?_
 intro y hy
 have hyx:Ext (w.alloc (.cells #[.pointer (some ⟨g,k*89,none⟩),.pointer (some ⟨X,0,none⟩),.int .i64 k] 112)) y:=by
  rw[hy]
  exact(Ext.refl _).drew
 clear hy
 have HY:=hD (H.out.ext (((Ext.refl w).alloc _).trans hyx))
 have HM:=hD ((((Ext.refl w).alloc _).trans hyx).mut F)
 have e0:y.cell? ⟨w.heap.size,0,none⟩=some (.pointer (some ⟨g,k*89,none⟩)):=(cell_of_row _ _ _ _ _ _ ((hyx.block _ (by simp)).trans (heap_alloc_new w _))).trans rfl
 have e88:=(HY.out.cellg (i:=k*89+88) (bZ hk (by decide))).trans (ho.gi hk 88 rfl)
 have e87:=(HY.out.cellg (i:=k*89+87) (bZ hk (by decide))).trans (ho.gi hk 87 rfl)
 have efr:=HY.out.frozen
 clear hyx
 simp only[List.take_succ_cons,List.take_zero,List.drop_succ_cons,List.drop_zero]
 repeat still_step
 refine wpStill_nil ?_
 go_wp2_with fail
 go_end0
 exact⟨rfl,HY.out.setp (k:=k) (j:=87) hk (by decide) _,HM.out.setCell (.inl HY.out.F2) _⟩
theorem zK(w:World)(F:Nat→Prop)(X g k:Nat)(B:Br)(h:BrG w F X g B)(ho:B.ok)(hk:k<B.np)(hF:∀n,F n→n<w.heap.size):Calls Tryz.prog 83 #[aJ g k X] w fun e w'=>e=.returned (.tuple #[])∧BrG w' F X g (((B.setp k 28 (.bool false)).setp k 26 (.bool false)).setp k 87 (.int .i64 (B.gi k 88)))∧Mut F w w':=by
 obtain⟨hX,hg,hne⟩:=h.lt
 have H:=hD h
 have hnb:¬F w.heap.size:=fun hh=>by have:=hF _ hh;omega
 have HF:=hD hF
 clear h hF
 unfold aJ
 go_enter Tryz.func83,Tryz.ntmps83
 go_wp2_with fail
 refine aT (S:=fun W'=>Mut F (w.alloc (.cells #[.pointer (some ⟨g,k*89,none⟩),.pointer (some ⟨X,0,none⟩),.int .i64 k] 112)) W') (by kernel_rfl) ?_
 intro y hyx
 have hm:=hyx.mut F
 have HYB:=hD (H.out.ext (((Ext.refl w).alloc _).trans hyx))
 have hbx:w.heap.size<(w.alloc (.cells #[.pointer (some ⟨g,k*89,none⟩),.pointer (some ⟨X,0,none⟩),.int .i64 k] 112)).heap.size:=by simp
 have c0:(w.alloc (.cells #[.pointer (some ⟨g,k*89,none⟩),.pointer (some ⟨X,0,none⟩),.int .i64 k] 112)).cell? ⟨w.heap.size,0,none⟩=some (.pointer (some ⟨g,k*89,none⟩)):=(cell_of_row _ _ _ _ _ _ (heap_alloc_new w _)).trans rfl
 have e28:=(HYB.out.cellg (i:=k*89+28) (bZ hk (by decide))).trans (ho.gb hk 28 rfl)
 have e26:=(HYB.out.cellg (i:=k*89+26) (bZ hk (by decide))).trans (ho.gb hk 26 rfl)
 have efr:=HYB.out.frozen
 clear hyx
 refine aH 0 w.heap.size 0 rfl hm ?_
 refine tL 1 (_) rfl (aA rfl 79 _ rfl ⟨w.heap.size,0,none⟩ rfl (.pointer (some ⟨g,k*89,none⟩)) _ (fun W' hW'=>(hW'.cell (p:=⟨w.heap.size,0,none⟩) hbx hnb).trans c0) Tryz.underlying79 rfl) hm ?_
 refine aH 2 w.heap.size 0 rfl hm ?_
 refine tL 3 (_) rfl (aA rfl 79 _ rfl ⟨w.heap.size,0,none⟩ rfl (.pointer (some ⟨g,k*89,none⟩)) _ (fun W' hW'=>(hW'.cell (p:=⟨w.heap.size,0,none⟩) hbx hnb).trans c0) Tryz.underlying79 rfl) hm ?_
 refine aH 4 g (k*89) rfl hm ?_
 refine aH 5 g (k*89+22) rfl hm ?_
 refine aH 6 g (k*89+28) rfl hm ?_
 refine bB (i:=7) rfl rfl (by kernel_rfl) (fun K hK=>?_)
 go_simp
 have hm1:=hm.setCell (p:=⟨g,k*89+28,none⟩) (.inl HYB.out.F2) (.bool false)
 refine hK.out _ _ hm1 (fun hHeld=>?_)
 try simp only[ps]
 clear hK K hHeld
 have HB1:=hD (HYB.out.setp (k:=k) (j:=28) hk (by decide) (.bool false))
 refine aH 8 g (k*89) rfl hm1 ?_
 refine aH 9 g (k*89+22) rfl hm1 ?_
 refine aH 10 g (k*89+26) rfl hm1 ?_
 refine bB (i:=11) rfl rfl (by kernel_rfl) (fun K hK=>?_)
 go_simp
 have hm2:=hm1.setCell (p:=⟨g,k*89+26,none⟩) (.inl HYB.out.F2) (.bool false)
 refine hK.out _ _ hm2 (fun hHeld=>?_)
 try simp only[ps]
 clear hK K hHeld
 refine wpAnyH_done (by kernel_rfl) ?_ _
 have HB2:=hD (HB1.out.setp (k:=k) (j:=26) hk (by decide) (.bool false))
 have hm0:=(((Ext.refl w).alloc (.cells #[.pointer (some ⟨g,k*89,none⟩),.pointer (some ⟨X,0,none⟩),.int .i64 k] 112)).mut F).trans hm2
 have hP:=(hm2.heap hbx hnb).trans (heap_alloc_new w (.cells #[.pointer (some ⟨g,k*89,none⟩),.pointer (some ⟨X,0,none⟩),.int .i64 k] 112))
 obtain⟨y2,hy2⟩:∃y2,(y.setCell ⟨g,k*89+28,none⟩ (.bool false)).setCell ⟨g,k*89+26,none⟩ (.bool false)=y2:=⟨_,rfl⟩
 rw[hy2]at HB2 hm0 hP ⊢
 have HM0:=hD hm0
 have HP:=hD hP
 clear hm hm1 hm2 hm0 hP hy2 c0 e28 e26 efr
 go_wp2_with (first|fail|((with_reducible refine aG 112 ?_);refine wpList_load_row rfl 112 _ rfl w.heap.size rfl 112 #[.pointer (some ⟨g,k*89,none⟩),.pointer (some ⟨X,0,none⟩),.int .i64 k] (0,0) _ HP.out Tryz.underlying112 rfl b8 ?_))
 refine(sP _ F X g k _ HB2.out ((ho.setB hk 28 _ rfl).setB hk 26 _ rfl) hk).mono ?_
 rintro e w1 ⟨rfl,hb3,hm3⟩
 rw[oX _ _ _ _ _ (by decide),oX _ _ _ _ _ (by decide)]at hb3
 go_wp2_with fail
 go_end0
 exact⟨rfl,hb3,HM0.out.trans hm3⟩
theorem n7(w:World)(F:Nat→Prop)(X g k:Nat)(B:Br)(h:BrG w F X g B)(ho:B.ok)(hk:k<B.np):Calls Tryz.prog 108 #[aJ g k X] w fun e w'=>e=.returned (.tuple #[])∧BrG w' F X g (B.setp k 42 (.bool false))∧Mut F w w':=by
 obtain⟨hX,hg,hne⟩:=h.lt
 have H:=hD h
 have e42:=qb h ho hk 42
 have efr:=h.frozen
 have hs:w.heap.size≠g:=by omega
 clear h
 unfold aJ
 go_enter Tryz.func108,Tryz.ntmps108
 go_wp2_with fail
 go_end0
 exact⟨rfl,(H.out.setp (k:=k) (j:=42) hk (by decide) (.bool false)).alloc _,((Mut.refl F w).setCell (p:=⟨g,k*89+42,none⟩) (.inl H.out.F2) (.bool false)).alloc _⟩
theorem kG(w:World)(F:Nat→Prop)(X g k:Nat)(B:Br)(h:BrG w F X g B)(ho:B.ok)(hk:k<B.np):Calls Tryz.prog 110 #[aJ g k X] w fun e w'=>e=.returned (.tuple #[])∧BrG w' F X g (B.setp k 12 (.int .i64 (B.hi 5)))∧Mut F w w':=by
 obtain⟨hX,hg,hne⟩:=h.lt
 have H:=hD h
 clear h
 unfold aJ
 go_enter Tryz.func110,Tryz.ntmps110
 go_wp2_with fail
 refine aS 11 (by kernel_rfl) (by kernel_rfl) ?_
 intro y hy
 have hyx:Ext (w.alloc (.cells #[.pointer (some ⟨g,k*89,none⟩),.pointer (some ⟨X,0,none⟩),.int .i64 k] 112)) y:=by
  rw[hy]
  exact(Ext.refl _).drew
 clear hy
 have HY:=hD (H.out.ext (((Ext.refl w).alloc _).trans hyx))
 have HM:=hD ((((Ext.refl w).alloc _).trans hyx).mut F)
 have e0:y.cell? ⟨w.heap.size,0,none⟩=some (.pointer (some ⟨g,k*89,none⟩)):=(cell_of_row _ _ _ _ _ _ ((hyx.block _ (by simp)).trans (heap_alloc_new w _))).trans rfl
 have e1:y.cell? ⟨w.heap.size,1,none⟩=some (.pointer (some ⟨X,0,none⟩)):=(cell_of_row _ _ _ _ _ _ ((hyx.block _ (by simp)).trans (heap_alloc_new w _))).trans rfl
 have e112:=(HY.out.cellg (i:=k*89+12) (bZ hk (by decide))).trans (ho.gi hk 12 rfl)
 have eh5:=(HY.out.cellX ho (i:=5) (by decide)).trans (ho.hi 5 rfl)
 have efr:=HY.out.frozen
 clear hyx
 simp only[List.take_succ_cons,List.take_zero,List.drop_succ_cons,List.drop_zero]
 repeat still_step
 refine wpStill_nil ?_
 go_wp2_with fail
 go_end0
 exact⟨rfl,(HY.out.setp (k:=k) (j:=12) hk (by decide) _),(HM.out.setCell (.inl HY.out.F2) _)⟩
theorem uL(w:World)(F:Nat→Prop)(X g k:Nat)(B:Br)(h:BrG w F X g B)(ho:B.ok)(hk:k<B.np)(hF:∀n,F n→n<w.heap.size)(hselB:(Lit.int .i64 (B.gi k 88)).wf=true):Calls Tryz.prog 85 #[aJ g k X] w fun e w'=>e=.returned (.tuple #[])∧BrG w' F X g ((B.setp k 87 (.int .i64 (B.gi k 88))).setp k 12 (.int .i64 (B.hi 5)))∧Mut F w w':=by
 obtain⟨hX,hg,hne⟩:=h.lt
 have H:=hD h
 have hnb:¬F w.heap.size:=fun hh=>by have:=hF _ hh;omega
 have HB:=hD hselB
 clear h hF
 unfold aJ
 go_enter Tryz.func85,Tryz.ntmps85
 go_wp2_with fail
 refine(sP _ F X g k _ (H.out.alloc _) ho hk).mono ?_
 rintro e w1 ⟨rfl,hb,hm⟩
 have HP:=hD ((hm.heap (by simp) hnb).trans (heap_alloc_new w _))
 have HM:=hD (((Mut.refl F w).alloc _).trans hm)
 have HB1:=hD hb
 clear hm hb
 go_wp2_with (first|fail|((with_reducible refine aG 112 ?_);refine wpList_load_row rfl 112 _ rfl w.heap.size rfl 112 #[.pointer (some ⟨g,k*89,none⟩),.pointer (some ⟨X,0,none⟩),.int .i64 k] (0,0) _ HP.out Tryz.underlying112 rfl b8 ?_))
 refine(kG _ F X g k _ HB1.out (ho.setI hk 87 _ _ rfl HB.out) hk).mono ?_
 rintro e w2 ⟨rfl,hb3,hm3⟩
 go_wp2_with fail
 go_end0
 exact⟨rfl,hb3,HM.out.trans hm3⟩
theorem pD(w:World)(F:Nat→Prop)(X g k:Nat)(B:Br)(h:BrG w F X g B)(ho:B.ok)(hk:k<B.np):Calls Tryz.prog 106 #[aJ g k X] w fun e w'=>e=.returned (.tuple #[])∧BrG w' F X g ((B.setp k 26 (.bool true)).setp k 7 (.int .i64 0))∧Mut F w w':=by
 obtain⟨hX,hg,hne⟩:=h.lt
 have H:=hD h
 have e26:=qb h ho hk 26
 have e7:=qi h ho hk 7 rfl
 have efr:=h.frozen
 have hs:w.heap.size≠g:=by omega
 clear h
 unfold aJ
 go_enter Tryz.func106,Tryz.ntmps106
 go_wp2_with fail
 go_end0
 exact⟨rfl,((H.out.setp (k:=k) (j:=26) hk (by decide) (.bool true)).setp (k:=k) (j:=7) hk (by decide) (.int .i64 0)).alloc _,(((Mut.refl F w).setCell (p:=⟨g,k*89+26,none⟩) (.inl H.out.F2) (.bool true)).setCell (p:=⟨g,k*89+7,none⟩) (.inl H.out.F2) (.int .i64 0)).alloc _⟩
theorem uM(w:World)(F:Nat→Prop)(X g k:Nat)(B:Br)(h:BrG w F X g B)(ho:B.ok)(hk:k<B.np):Calls Tryz.prog 96 #[aJ g k X] w fun e w'=>e=.returned (.tuple #[])∧BrG w' F X g (((B.setp k 33 (.bool false)).setp k 22 (.bool true)).setp k 31 (.bool true))∧Mut F w w':=by
 obtain⟨hX,hg,hne⟩:=h.lt
 have H:=hD h
 have e33:=qb h ho hk 33
 have e22:=qb h ho hk 22
 have e31:=qb h ho hk 31
 have efr:=h.frozen
 have hs:w.heap.size≠g:=by omega
 clear h
 unfold aJ
 go_enter Tryz.func96,Tryz.ntmps96
 go_wp2_with fail
 go_end0
 exact⟨rfl,(((H.out.setp (k:=k) (j:=33) hk (by decide) (.bool false)).setp (k:=k) (j:=22) hk (by decide) (.bool true)).setp (k:=k) (j:=31) hk (by decide) (.bool true)).alloc _,((((Mut.refl F w).setCell (p:=⟨g,k*89+33,none⟩) (.inl H.out.F2) (.bool false)).setCell (p:=⟨g,k*89+22,none⟩) (.inl H.out.F2) (.bool true)).setCell (p:=⟨g,k*89+31,none⟩) (.inl H.out.F2) (.bool true)).alloc _⟩
theorem aBQ(w:World)(F:Nat→Prop)(X g k:Nat)(B:Br)(h:BrG w F X g B)(ho:B.ok)(hk:k<B.np):Calls Tryz.prog 115 #[aJ g k X] w fun e w'=>e=.returned (.bool (B.gb k 42 && B.gi k 12 == 0))∧Ext w w':=by
 obtain⟨hX,hg,hne⟩:=h.lt
 have p42:=qb h ho hk 42
 have p12:=qi h ho hk 12 rfl
 clear h
 obtain⟨x42,e42⟩:∃b,B.gb k 42=b:=⟨_,rfl⟩
 obtain⟨x12,e12⟩:∃b,B.gi k 12=b:=⟨_,rfl⟩
 rw[e42]at p42 ⊢
 rw[e12]at p12 ⊢
 have hs:w.heap.size≠g:=by omega
 unfold aJ
 go_enter Tryz.func115,Tryz.ntmps115
 cases x42
 all_goals
  go_wp2_with fail
  go_ret
  exact⟨by simp,(Ext.refl w).alloc _⟩
def cD(B:Br)(k:Nat):Int:=if B.gb k 45=true then B.hi 4 else B.hi 5
def sQ(B:Br)(k:Nat):Int:=if B.gb k 3=true then B.hi 3 else 3
def rA(B:Br):Bool:=(List.range B.np).all (aD4 B)
theorem aBR(B:Br):rA B=true↔xA B:=by
 unfold rA xA
 simp[List.all_eq_true]
def rB(B:Br)(k:Nat):Bool:=(List.range B.np).all fun j=>j == k || B.gi j 12 == 0
theorem aBS(B:Br)(k:Nat):rB B k=true↔ReR B k:=by
 unfold rB ReR
 simp only[List.all_eq_true,List.mem_range,Bool.or_eq_true,beq_iff_eq]
 constructor
 ·intro h j hj hne
  rcases h j hj with h1|h1
  ·exact absurd (by exact_mod_cast h1) hne
  ·exact h1
 ·intro h j hj
  by_cases e:j=k
  ·exact .inl e
  ·exact .inr (h j hj (by exact_mod_cast e))
def dK(B:Br)(k:Nat)(fd:Int):Bool:=B.gi k 7 != fd || B.gb k 46 || B.gb k 42 || !B.gb k 47
def dF(B:Br)(k:Nat):Bool:=B.gi k 7 == 0 || (B.hb 1 && rB B k && B.gi k 10 == 0)
def eT(B:Br)(k:Nat):Bool:=(rA B && !B.gb k 22) || (B.gb k 33 && B.gb k 22)
def dX(B:Br)(k:Nat):Bool:=(B.gi k 7 == 0 || B.gb k 23 || B.gb k 32) && (!B.gb k 42 || B.gi k 12 == 0) && !B.gb k 46
def cQ(B:Br)(k:Nat):Nat→Bool
 | 0=>B.gi k 88 == 0 && B.gi k 87 != 0
 | 1=>B.gi k 88 == 3 && B.gi k 87 != 3
 | 2=>B.gi k 88 == 4 && B.gi k 87 != 4
 | 3=>(B.gi k 88 == 1 && B.gi k 87 != 1) || (B.gi k 88 == 2 && B.gi k 87 != 2)
 | 4=>!B.gb k 29 && !B.gb k 27
 | 5=>dK B k (B.hi 3)
 | 6=>!B.gb k 29 && !B.gb k 27
 | 7=>B.gb k 33 && !B.gb k 22
 | 8=>eT B k
 | 9=>B.gi k 87 == 2 && B.gi k 10 != 2*B.hi 4
 | 10=>dK B k (cD B k)
 | 11=>B.gb k 33 && !B.gb k 22
 | 12=>eT B k
 | 13=>!B.gb k 26 && !B.gb k 42
 | 14=>dF B k && !B.gb k 28
 | 15=>dF B k && B.gb k 28 && !B.gb k 26
 | 16=>B.gb k 42 && B.gb k 26
 | 17=>B.gi k 12 != B.hi 5
 | 18=>!B.gb k 26 && !B.gb k 23 && !B.gb k 34 && !B.gb k 32
 | 19=>if B.gb k 47=true then B.gb k 46 else(!B.gb k 29 && !B.gb k 27) || B.gb k 23 || B.gb k 32
 | 20=>B.gb k 42 && B.gi k 12 == 0
 | 21=>(B.gb k 28 || B.gb k 26) && !B.gb k 32 && ((B.gb k 46 && !B.gb k 47) || (B.gb k 42 && B.gi k 12 != 0) || B.gb k 24)
 | 22=>dX B k && !B.gb k 28
 | _=>dX B k && B.gb k 28 && !B.gb k 26
def eG(B:Br)(k:Nat)(fd:Int):Br:=((((B.setp k 7 (.int .i64 fd)).setp k 12 (.int .i64 0)).setp k 47 (.bool true)).setp k 46 (.bool false)).setp k 42 (.bool false)
def jU(B:Br)(k:Nat):Br:=(B.upd 46 (fun _=>.bool true) B.np).setp k 33 (.bool false)
def oL(B:Br):Br:=B.upd 42 (fun _=>.bool true) B.np
def gF(B:Br)(k:Nat):Br:=((B.setp k 33 (.bool false)).setp k 22 (.bool true)).setp k 31 (.bool true)
def iN(B:Br)(k:Nat):Br:=(B.setp k 28 (.bool true)).setp k 7 (.int .i64 (cD B k))
def jV(B:Br)(k:Nat):Br:=(B.setp k 26 (.bool true)).setp k 7 (.int .i64 0)
def kT(B:Br)(k:Nat):Br:=((B.setp k 28 (.bool false)).setp k 26 (.bool false)).setp k 87 (.int .i64 (B.gi k 88))
def dY(B:Br)(k:Nat):Nat→Br
 | 0=>kT B k
 | 1=>(B.setp k 87 (.int .i64 (B.gi k 88))).setp k 12 (.int .i64 (B.hi 5))
 | 2=>B.setp k 87 (.int .i64 (B.gi k 88))
 | 3=>kT B k
 | 4=>eG B k (B.hi 3)
 | 5=>eG B k (B.hi 3)
 | 6=>eG B k (cD B k)
 | 7=>jU B k
 | 8=>gF B k
 | 9=>B.setp k 10 (.int .i64 (2*B.hi 4))
 | 10=>eG B k (cD B k)
 | 11=>jU B k
 | 12=>(gF B k).setp k 46 (.bool false)
 | 13=>oL B
 | 14=>iN B k
 | 15=>jV B k
 | 16=>B.setp k 42 (.bool false)
 | 17=>B.setp k 12 (.int .i64 (B.hi 5))
 | 18=>((B.setp k 34 (.bool true)).setp k 31 (.bool true)).setp k 6 (.int .i64 (sQ B k))
 | 19=>((B.setp k 12 (.int .i64 0)).setp k 47 (.bool true)).setp k 46 (.bool false)
 | 20=>B.setp k 42 (.bool false)
 | 21=>(((B.setp k 28 (.bool false)).setp k 26 (.bool false)).setp k 24 (.bool false)).setp k 7 (.int .i64 (cD B k))
 | 22=>iN B k
 | _=>(jV B k).setp k 23 (.bool (B.gb k 45))
def zL(B:Br)(k:Nat):Nat :=
 if cQ B k 0=true then 0 else if cQ B k 1=true then 1 else if cQ B k 2=true then 2 else if cQ B k 3=true then 3 else
 if B.gi k 19=0 then(if cQ B k 4=true then 4 else 24)else
 if B.gi k 19=1 then(if cQ B k 5=true then 5 else 24)else
 if B.gi k 19=4 then(if cQ B k 6=true then 6 else 24)else
 if B.gi k 19=5 then(if cQ B k 7=true then 7 else if cQ B k 8=true then 8 else if cQ B k 9=true then 9 else if cQ B k 10=true then 10 else 24)else
 if B.gi k 19=2 then(if cQ B k 11=true then 11 else if cQ B k 12=true then 12 else if cQ B k 13=true then 13 else if cQ B k 14=true then 14 else if cQ B k 15=true then 15 else if cQ B k 16=true then 16 else if cQ B k 17=true then 17 else 24)else
 if B.gi k 19=3 then(if cQ B k 18=true then 18 else if cQ B k 19=true then 19 else if cQ B k 20=true then 20 else if cQ B k 21=true then 21 else if cQ B k 22=true then 22 else if cQ B k 23=true then 23 else 24)else 24
def mO(B:Br)(k r:Nat):Bool × Br:=if r=24 then(false,B)else if uF r=-2 then(true,dY B k r)else(true,(dY B k r).setp k 19 (.int .i64 (uF r)))
def oM(B:Br)(k:Nat):Bool × Br:=if B.gb k 44=true∧B.gb k 50=false then mO B k (zL B k)else(false,B)
section
variable {B:Br} {k:Nat}
theorem sR:zL B k≤24:=by
 unfold zL
 grind (splits:=40)
theorem zM(h:zL B k<24):(wB (zL B k)=-1∨wB (zL B k)=B.gi k 19)∧cQ B k (zL B k)=true:=by
 revert h
 unfold zL
 grind (splits:=40) [wB]
theorem xC:∀i,i<zL B k→¬((wB i=-1∨wB i=B.gi k 19)∧cQ B k i=true):=by
 intro i hi
 have h24:i<24:=nL hi sR
 rintro⟨hs,hh⟩
 unfold zL at hi
 rcases(by omega:i=0∨i=1∨i=2∨i=3∨i=4∨i=5∨i=6∨i=7∨i=8∨i=9∨i=10∨i=11∨i=12∨i=13∨i=14∨i=15∨i=16∨i=17∨i=18∨i=19∨i=20∨i=21∨i=22∨i=23)with rfl|rfl|rfl|rfl|rfl|rfl|rfl|rfl|rfl|rfl|rfl|rfl|rfl|rfl|rfl|rfl|rfl|rfl|rfl|rfl|rfl|rfl|rfl|rfl
 all_goals
  simp only[wB]at hs
  grind (splits:=40)
end
end Go.Proofs.YtpanapepcbbagaaGreat
