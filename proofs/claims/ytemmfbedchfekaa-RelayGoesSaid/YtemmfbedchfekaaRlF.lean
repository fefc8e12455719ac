/- A port put into a box; frames. No statement is proved here. -/
import Derived.Test.YtemmfbedchfekaaRlQ
namespace Go.Proofs.Ytemmfbedchfekaa
open Go.RowKit Go.BigFrame Go.WideShapes Go.ChangeShapes Go.Deep
set_option linter.unusedVariables false
set_option linter.unusedSimpArgs false
set_option maxRecDepth 100000

def FZ : Array Value := #[.int .i64 0, .int .u64 0, .int .u64 0]
theorem zero_fr : ∀ w, (zeroValue 45).run Try.prog w = .ok (.agg FZ) w := (zero_of_info (P := Try.prog) (t := 45) (v := .agg FZ) (n := 3) (by kernel_rfl)).1
theorem size_fr : (Try.prog.info? 45).map (·.size) = some 3 := by kernel_rfl
theorem full_port {l : List Value} (h : l.length = 89) : (PZ.toList.take 0 ++ l.toArray.toList ++ PZ.toList.drop (0 + l.toArray.size)).toArray = l.toArray := by
  rw [List.size_toArray, h, show PZ.toList.drop (0 + 89) = [] from List.drop_eq_nil_of_le (by rw [Array.length_toList, size_PZ]; decide)]
  simp
/-- The ports of a bridge's value, whole. -/
theorem BrC.portsW {w : World} {c : Array Value} {B : Br} (h : BrC w c B) (ho : B.ok) (hn : 0 < B.np) : ∃ b off cap, c[17]? = some (.slice (some ⟨b, off, none⟩) B.np cap) ∧ B.np ≤ cap ∧ cap ≤ 9223372036854775807 ∧ b < w.heap.size ∧
    (∀ i, i < B.np → w.rangeAt b (off + i * 89) (port B.ps i)) ∧ ∀ i, i < B.np → ∀ j v, j < 89 → B.ps[i * 89 + j]? = some v → w.cell? ⟨b, off + i * 89 + j, none⟩ = some v := by
  obtain ⟨s1, s2, s3, hz, hhd, c17, c18, c19, r1, -, -⟩ := h.facts ho.hd.1
  obtain ⟨a, cap, rfl, hm, hf⟩ := r1.form
  obtain ⟨b, off, rfl, hb, h1, h2, h3⟩ := hf hn
  refine ⟨b, off, cap, c17, h1, h2, hb, fun i hi => port_range h3 i, fun i hi j v hj hv => ?_⟩
  have := h3 (i * 89 + j) v hv
  rw [show off + i * 89 + j = off + (i * 89 + j) by omega]
  exact this
/-- What a frame that goes on tells. -/
theorem goes_some {B : Br} {most age : Int} {L L' : List En} {inn src dst : Int} {xs : List Int} (h : GoesP B most age L inn src dst L' xs) (h0 : 0 < xs.length) :
    (0 ≤ inn ∧ inn < (B.np : Int) ∧ B.gb inn.toNat 2 = true ∧ B.gb inn.toNat 27 = true) ∧ xs.Pairwise (· < ·) ∧ ∀ k (hk : k < xs.length), ∃ j : Nat, xs[k] = (j : Int) ∧ j < B.np ∧ (j : Int) ≠ inn ∧ B.gb j 2 = true ∧ B.gb j 27 = true := by
  rcases h with ⟨_, _, rfl⟩ | ⟨⟨h1, h2, h3, _⟩, _, h⟩
  · simp at h0
  · rcases h with ⟨h4, p, kn, _, rfl⟩ | ⟨_, rfl⟩
    · refine ⟨⟨h1, h2, h3, h4⟩, outL_rises _ _ _ _ _, fun k hk => ?_⟩
      obtain ⟨j, hj, he, hne, hf, _⟩ := mem_outL (List.getElem_mem hk)
      unfold fwB at hf
      rw [Bool.and_eq_true] at hf
      exact ⟨j, he, hj, hne, hf.1, hf.2⟩
    · simp at h0
/-- What is handed back, cell by cell. -/
theorem IntsA.at {w : World} {a : Option Addr} {n cap : Nat} {L : List Int} (h : IntsA w (.slice a n cap) L) (h0 : 0 < n) : L.length = n ∧ ∃ b off, a = some ⟨b, off, none⟩ ∧ b < w.heap.size ∧ ∀ i (hi : i < L.length), w.cell? ⟨b, off + i, none⟩ = some (.int .i64 (L[i]'hi)) := by
  obtain ⟨a', cap', e, hf⟩ := h
  injection e with e1 e2 e3
  subst e1 e2
  exact ⟨rfl, hf h0⟩

end Go.Proofs.Ytemmfbedchfekaa
