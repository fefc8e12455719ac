/- A byte stored in a row of one's own. No statement is proved here. -/
import Derived.Test.YtdfaagchlnkpnaaLlH
namespace Go.Proofs.Ytdfaagchlnkpnaa
open Go.RowKit Go.BigFrame Go.WideShapes Go.ChangeShapes Go.Deep
set_option linter.unusedVariables false
set_option linter.unusedSimpArgs false

theorem own_some {w : World} {base m n : Nat} {e : TypeId} {v : Value} {xs : List Value} (h : w.ownsRow base e m v n xs) (h0 : 0 < n * m) : ∃ g cap, v = .slice (some ⟨g, 0, none⟩) n cap ∧ base ≤ g ∧ g < w.heap.size ∧ n ≤ cap ∧ cap ≤ 9223372036854775807 := by
  obtain ⟨hl, ⟨rfl, rfl⟩ | ⟨g, cap, cur, rfl, hb, hg, hn, hm, hs, ht⟩⟩ := h
  · simp at hl; omega
  · exact ⟨g, cap, rfl, hb, heap_lt hg, hn, by unfold maxLen at hm; omega⟩
theorem wpList_own_byte {ops : Array Oper} {rest : List Oper} {op : Oper} {a : Act} {w : World} {Q : Exit → Act → World → Prop} (hgd : op.guard = none) (hdst : op.dst = none) (x y : Operand) (ho : op.op = .store 5 x y)
    (W0 : World) (hW : Ext W0 w) (g n cap k : Nat) (xs : List Int) (v : Int) (hx : a.eval x = .pointer (some ⟨g, k, none⟩)) (hy : a.eval y = .int .u8 v)
    (hown : w.ownsRow W0.heap.size 5 1 (.slice (some ⟨g, 0, none⟩) n cap) n (xs.map (Value.int .u8))) (hk : k < n)
    (h : ∀ w', w'.ownsRow W0.heap.size 5 1 (.slice (some ⟨g, 0, none⟩) n cap) n ((xs.set k v).map (Value.int .u8)) → Ext W0 w' → wpList Try.prog ops Q rest a w') : wpList Try.prog ops Q (op :: rest) a w := by
  obtain ⟨hl, ⟨h1, h2⟩ | ⟨g', cap', cur, he, hb, hg, hn, hm, hs, ht⟩⟩ := hown
  · simp at h1
  · simp only [Value.slice.injEq, Option.some.injEq, Addr.mk.injEq] at he
    obtain ⟨⟨rfl, -, -⟩, -, rfl⟩ := he
    have hls : k + 1 ≤ cur.size := by omega
    refine st_at hgd hdst 5 x y ho g k (.int .u8 v) #[.int .u8 v] cur (cur.toList.set k (.int .u8 v)).toArray _ hx hy rfl hg hls (by kernel_rfl) rfl (by
      rw [List.set_eq_take_append_cons_drop, if_pos (by simp; omega)]
      simp) ?_
    intro w' hrow hmut
    refine h w' ⟨by simpa using hl, .inr ⟨g, cap, _, rfl, hb, hrow, hn, hm, by simpa using hs, ?_⟩⟩ (Ext.mutE hW hmut (fun n hn h => by have h2 : n = g := h; omega))
    rw [List.map_set, ← ht, List.take_set]

end Go.Proofs.Ytdfaagchlnkpnaa
