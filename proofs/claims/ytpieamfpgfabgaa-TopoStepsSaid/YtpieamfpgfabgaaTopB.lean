/- The machine of changes: what it looks at, and does. No statement is proved here. -/
import Derived.Test.YtpieamfpgfabgaaTopA
import Derived.Test.YtpieamfpgfabgaaBrR
namespace Go.Proofs.Ytpieamfpgfabgaa
open Go.RowKit Go.BigFrame Go.WideShapes Go.ChangeShapes Go.Deep
set_option linter.unusedVariables false
set_option linter.unusedSimpArgs false

theorem top_counts (g o : Nat) (ta tm th td : Int) (b1 b2 : Nat) (r : Int) (w : World) (hg : g < w.heap.size) (h87 : w.cell? ⟨g, o + 87, none⟩ = some (.int .i64 r)) :
    Calls Try.prog 39 #[.agg #[.pointer (some ⟨g, o, none⟩), .int .i64 ta, .int .i64 tm, .int .i64 th, .int .i64 td, .func (.func 35) #[] #[.pointer (some ⟨b1, 0, none⟩), .pointer (some ⟨b2, 0, none⟩)]]] w fun e w' => e = .returned (.bool ((r == 3) || (r == 4))) ∧ Ext w w' := by
  by_cases h3 : r = 3
  · subst h3
    go_enter Try.func39, Try.ntmps39
    go_wp2
    go_ret
    exact ⟨rfl, (Ext.refl w).alloc _⟩
  · have hb : (r == 3) = false := by simpa using h3
    go_enter Try.func39, Try.ntmps39
    go_wp2
    go_ret
    exact ⟨retB (by rw [hb]; rfl), (Ext.refl w).alloc _⟩

/-- What is to be done in TopoActive. -/
def actSel (cnt edge tcn tc prop ack : Bool) : Nat := if (!cnt || edge) = true then 1 else if tcn = true then 2 else if tc = true then 3 else if prop = true then 4 else if ack = true then 5 else 0
def topFun (n : Nat) (m : Value) : Value :=
  if n = 1 then .func (.func 36) #[m] #[] else if n = 2 then .func (.func 43) #[m] #[] else if n = 3 then .func (.func 44) #[m] #[]
  else if n = 4 then .func (.func 45) #[m] #[] else if n = 5 then .func (.func 46) #[m] #[]
  else if n = 6 then .func (.func 40) #[m] #[] else if n = 7 then .func (.func 42) #[m] #[] else Value.nilFunc

set_option maxRecDepth 100000 in
set_option maxHeartbeats 1000000 in
theorem top_active (g o : Nat) (ta tm th td : Int) (b1 b2 : Nat) (r : Int) (cnt : Bool) (hcnt : ((r == 3) || (r == 4)) = cnt) (edge tcn tc prop ack : Bool) (fl : List Value) (w : World) (hg : g < w.heap.size) (h87 : w.cell? ⟨g, o + 87, none⟩ = some (.int .i64 r))
    (hfl : w.rangeAt g (o + 22) fl) (hfn : fl.length = 29) (hone : ∀ v ∈ fl, v.oneCell' = true) (f10 : fl[10]? = some (.bool edge)) (f19 : fl[19]? = some (.bool tcn)) (f17 : fl[17]? = some (.bool tc)) (f27 : fl[27]? = some (.bool prop)) (f18 : fl[18]? = some (.bool ack)) :
    Calls Try.prog 38 #[.agg #[.pointer (some ⟨g, o, none⟩), .int .i64 ta, .int .i64 tm, .int .i64 th, .int .i64 td, .func (.func 35) #[] #[.pointer (some ⟨b1, 0, none⟩), .pointer (some ⟨b2, 0, none⟩)]]] w fun e w' => e = .returned (topFun (actSel cnt edge tcn tc prop ack) (.agg #[.pointer (some ⟨g, o, none⟩), .int .i64 ta, .int .i64 tm, .int .i64 th, .int .i64 td, .func (.func 35) #[] #[.pointer (some ⟨b1, 0, none⟩), .pointer (some ⟨b2, 0, none⟩)]])) ∧ Ext w w' := by
  have HF := Lib.hid hfl
  have H87 := Lib.hid h87
  have hfi := Lib.hid (show (Try.prog.info? 50).map (·.size) = some fl.length by rw [hfn]; exact size_flags)
  have hfi2 := Lib.hid (show (Try.prog.info? 50).map (·.size) = some fl.toArray.size by rw [List.size_toArray, hfn]; exact size_flags)
  have hfs := Lib.hid (show FZ.size = fl.toArray.size by rw [List.size_toArray]; exact hfn.symm)
  have hfo := Lib.hid (all_oneCell_toArray hone)
  have hzf := zero_flags
  have HCN := Lib.hid hcnt
  clear hfl hfn hone h87 hcnt
  go_enter Try.func38, Try.ntmps38
  go_wp2_with (first | fail | ((with_reducible refine at_load 50 ?_); refine wpList_load_mid rfl 50 _ rfl g (o + 22) rfl fl _ (rangeAt_ext HF.out ((Ext.refl w).alloc _) hg) Try.underlying50 rfl hfi.out ?_) | ((with_reducible refine at_store 50 ?_); refine wpList_store_new2 rfl rfl 50 _ _ _ rfl FZ fl.toArray _ rfl ?_ rfl hfi2.out hfs.out (by rw [Array.all_toList]; exact hfo.out) ?_; · simp))
  refine (asb (top_counts g o ta tm th td b1 b2 r _ (by simp; omega) ((((Ext.refl w).alloc _).alloc _).cell (p := ⟨g, o + 87, none⟩) hg |>.trans H87.out)) HCN.out).mono ?_
  rintro e w1 ⟨rfl, hx1⟩
  have hx0 := ((((Ext.refl w).alloc (.cells #[.pointer (some ⟨g, o, none⟩), .int .i64 ta, .int .i64 tm, .int .i64 th, .int .i64 td, .func (.func 35) #[] #[.pointer (some ⟨b1, 0, none⟩), .pointer (some ⟨b2, 0, none⟩)]] 65)).alloc (.cells fl.toArray 50)).trans hx1)
  have m1 : ∀ j, w1.cell? ⟨w.heap.size, j, none⟩ = (#[.pointer (some ⟨g, o, none⟩), .int .i64 ta, .int .i64 tm, .int .i64 th, .int .i64 td, .func (.func 35) #[] #[.pointer (some ⟨b1, 0, none⟩), .pointer (some ⟨b2, 0, none⟩)]] : Array Value)[j]? := fun j => (hx1.cell (by simp; omega)).trans ((World.cell?_alloc_past _ _ _ (by simp)).trans (World.cell?_alloc_at _ _ _ _ rfl))
  have n1 : ∀ j, w1.cell? ⟨w.heap.size + 1, j, none⟩ = fl[j]? := fun j => (hx1.cell (by simp)).trans ((World.cell?_alloc_at _ _ _ _ (by simp)).trans (by simp))
  have HX := Lib.hid hx0
  have q10 := (n1 10).trans f10
  have q17 := (n1 17).trans f17
  have q18 := (n1 18).trans f18
  have q19 := (n1 19).trans f19
  have q27 := (n1 27).trans f27
  have m0_ := (m1 0).trans (show (#[.pointer (some ⟨g, o, none⟩), .int .i64 ta, .int .i64 tm, .int .i64 th, .int .i64 td, .func (.func 35) #[] #[.pointer (some ⟨b1, 0, none⟩), .pointer (some ⟨b2, 0, none⟩)]] : Array Value)[0]? = some _ from rfl)
  have m1_ := (m1 1).trans (show (#[.pointer (some ⟨g, o, none⟩), .int .i64 ta, .int .i64 tm, .int .i64 th, .int .i64 td, .func (.func 35) #[] #[.pointer (some ⟨b1, 0, none⟩), .pointer (some ⟨b2, 0, none⟩)]] : Array Value)[1]? = some _ from rfl)
  have m2_ := (m1 2).trans (show (#[.pointer (some ⟨g, o, none⟩), .int .i64 ta, .int .i64 tm, .int .i64 th, .int .i64 td, .func (.func 35) #[] #[.pointer (some ⟨b1, 0, none⟩), .pointer (some ⟨b2, 0, none⟩)]] : Array Value)[2]? = some _ from rfl)
  have m3_ := (m1 3).trans (show (#[.pointer (some ⟨g, o, none⟩), .int .i64 ta, .int .i64 tm, .int .i64 th, .int .i64 td, .func (.func 35) #[] #[.pointer (some ⟨b1, 0, none⟩), .pointer (some ⟨b2, 0, none⟩)]] : Array Value)[3]? = some _ from rfl)
  have m4_ := (m1 4).trans (show (#[.pointer (some ⟨g, o, none⟩), .int .i64 ta, .int .i64 tm, .int .i64 th, .int .i64 td, .func (.func 35) #[] #[.pointer (some ⟨b1, 0, none⟩), .pointer (some ⟨b2, 0, none⟩)]] : Array Value)[4]? = some _ from rfl)
  have m5_ := (m1 5).trans (show (#[.pointer (some ⟨g, o, none⟩), .int .i64 ta, .int .i64 tm, .int .i64 th, .int .i64 td, .func (.func 35) #[] #[.pointer (some ⟨b1, 0, none⟩), .pointer (some ⟨b2, 0, none⟩)]] : Array Value)[5]? = some _ from rfl)
  clear hx1 hx0 m1 n1 f10 f17 f18 f19 f27
  clear H87 HCN
  cases cnt
  · go_wp2_with fail
    go_ret
    refine ⟨?_, HX.out⟩
    simp [topFun, actSel]
  · cases edge
    · cases tcn
      · cases tc
        · cases prop
          · cases ack
            · go_wp2_with fail
              go_ret
              refine ⟨?_, HX.out⟩
              simp [topFun, actSel]
            · go_wp2_with fail
              go_ret
              refine ⟨?_, HX.out⟩
              simp [topFun, actSel]
          · go_wp2_with fail
            go_ret
            refine ⟨?_, HX.out⟩
            simp [topFun, actSel]
        · go_wp2_with fail
          go_ret
          refine ⟨?_, HX.out⟩
          simp [topFun, actSel]
      · go_wp2_with fail
        go_ret
        refine ⟨?_, HX.out⟩
        simp [topFun, actSel]
    · go_wp2_with fail
      go_ret
      refine ⟨?_, HX.out⟩
      simp [topFun, actSel]

end Go.Proofs.Ytpieamfpgfabgaa
