/- How far it is: the nearest point that isn't done with. No statement is proved here. -/
import Derived.Test.YtendaloeonbbeaaReB
namespace Go.Proofs.Ytendaloeonbbeaa
open Go.RowKit Go.BigFrame Go.WideShapes Go.ChangeShapes Go.Deep
set_option linter.unusedVariables false
set_option linter.unusedSimpArgs false

/-- Is point i nearer than what was found? -/
def nearB (D : List Way) (dn : List Bool) (at_ : Int) (i : Nat) : Bool :=
  !dn.getD i false && match D.getD i none with
    | none => false
    | some (a, b) => decide (at_ < 0) || match D.getD at_.toNat none with
      | none => false
      | some (c, d) => ltW a b c d
def nearF (D : List Way) (dn : List Bool) : Nat → Int
  | 0 => -1
  | i + 1 => if nearB D dn (nearF D dn i) i = true then i else nearF D dn i
theorem nearF_rg (D : List Way) (dn : List Bool) : ∀ i, nearF D dn i = -1 ∨ ∃ k : Nat, k < i ∧ nearF D dn i = k ∧ dn.getD k false = false ∧ ∃ q, D.getD k none = some q
  | 0 => .inl rfl
  | i + 1 => by
    unfold nearF
    split
    · rename_i h
      refine .inr ⟨i, by omega, rfl, ?_, ?_⟩
      · unfold nearB at h
        cases hd : dn.getD i false
        · rfl
        · rw [hd] at h; simp at h
      · unfold nearB at h
        cases hq : D.getD i none with
        | none => rw [hq] at h; simp at h
        | some q => exact ⟨q, rfl⟩
    · rcases nearF_rg D dn i with h | ⟨k, hk, h⟩
      · exact .inl h
      · exact .inr ⟨k, by omega, h⟩
/-- Lengths, in a row of memory. -/
def WayAt (w : World) (g : Nat) (D : List Way) : Prop := g < w.heap.size ∧ ∀ i, i < D.length → w.cell? ⟨g, i, none⟩ = some (cvW (D.getD i none))
def BoolAt (w : World) (g : Nat) (D : List Bool) : Prop := g < w.heap.size ∧ ∀ i, i < D.length → w.cell? ⟨g, i, none⟩ = some (.bool (D.getD i false))
set_option maxRecDepth 100000 in
set_option maxHeartbeats 1000000 in
theorem rnearest_any (g1 g2 : Nat) (D : List Way) (dn : List Bool) (n c1 c2 : Nat) (w : World) (h1 : WayAt w g1 D) (h2 : BoolAt w g2 dn) (l1 : D.length = n) (l2 : dn.length = n) (hn : n ≤ 1000) (hc1 : n ≤ c1) (hc2 : n ≤ c2) (hm1 : c1 ≤ 9223372036854775807) (hm2 : c2 ≤ 9223372036854775807) (hf : ∀ i, (D.getD i none).fits) :
    Calls Try.prog 31 #[.slice (some ⟨g1, 0, none⟩) n c1, .slice (some ⟨g2, 0, none⟩) n c2] w fun e w' => e = .returned (.int .i64 (nearF D dn n)) ∧ w = w' := by
  have H1 := Lib.hid h1.2
  have H2 := Lib.hid h2.2
  have HF := Lib.hid hf
  clear h1 h2 hf
  go_enter Try.func31, Try.ntmps31
  go_wp2_with fail
  go_loopw [10, 5] (fun i s wr => ∃ k : Nat, k ≤ n ∧ i = .int .i64 k ∧ s = .int .i64 (nearF D dn k) ∧ w = wr) (fun i _ _ => n - (intOf i).toNat)
  case atStart => exact ⟨0, by omega, rfl, rfl, rfl⟩
  case round =>
    obtain ⟨k, hk, rfl, rfl, rfl⟩ := hrel
    by_cases hlt : k < n
    · have HS := Lib.hid (show nearF D dn (k + 1) = if nearB D dn (nearF D dn k) k = true then (k : Int) else nearF D dn k from rfl)
      have hrg := nearF_rg D dn k
      obtain ⟨z, hz⟩ : ∃ z, nearF D dn k = z := ⟨_, rfl⟩
      rw [hz] at HS hrg ⊢
      clear hz
      have d1 := H1.out k (by omega)
      have d2 := H2.out k (by omega)
      have hfk := HF.out k
      obtain ⟨q, hq⟩ : ∃ q, D.getD k none = q := ⟨_, rfl⟩
      obtain ⟨b, hb⟩ : ∃ b, dn.getD k false = b := ⟨_, rfl⟩
      rw [hq] at d1 hfk
      rw [hb] at d2
      have HQ := Lib.hid hq
      have HB := Lib.hid hb
      have hk8 : k < 1000 := by omega
      clear hq hb
      obtain ⟨x, hx⟩ : ∃ x, cvW q = x := ⟨_, rfl⟩
      have HX := Lib.hid hx
      rw [hx] at d1
      clear hx
      cases b
      · cases q with
        | none =>
          have HV := Lib.hid (show nearF D dn (k + 1) = z by rw [HS.out, if_neg]; unfold nearB; rw [HB.out, HQ.out]; simp)
          have HC := Lib.hid (fun w : World => by have h := rnone_any none w trivial; rw [HX.out] at h; exact h)
          go_wp2_with fail
          refine (HC.out _).mono ?_
          rintro e w1 ⟨rfl, rfl⟩
          go_wp2_with fail
          go_roundw
          case rel => exact ⟨k + 1, by omega, by go_num, by rw [HV.out], by first | rfl | trivial⟩
          case measure => simp [intOf]; omega
        | some p =>
          obtain ⟨pa, pb⟩ := p
          have HC := Lib.hid (fun w : World => by have h := rnone_any (some (pa, pb)) w hfk; rw [HX.out] at h; exact h)
          rcases hrg with rfl | ⟨m, hm, rfl, hmd, ⟨⟨qa, qb⟩, hmq⟩⟩
          · have HV := Lib.hid (show nearF D dn (k + 1) = k by rw [HS.out, if_pos]; unfold nearB; rw [HB.out, HQ.out]; simp)
            go_wp2_with fail
            refine (HC.out _).mono ?_
            rintro e w1 ⟨rfl, rfl⟩
            go_wp2_with fail
            go_roundw
            case rel => exact ⟨k + 1, by omega, by go_num, by rw [HV.out], by first | rfl | trivial⟩
            case measure => simp [intOf]; omega
          · have hm8 : m < 1000 := by omega
            have hfm := HF.out m
            have dm := H1.out m (by omega)
            rw [hmq] at hfm dm
            have HMQ := Lib.hid hmq
            obtain ⟨t, ht⟩ : ∃ t, ltW pa pb qa qb = t := ⟨_, rfl⟩
            have HLS := Lib.hid (fun w : World => by have h := rless_any pa pb qa qb w hfk.1 hfk.2 hfm.1 hfm.2; rw [HX.out, ht] at h; exact h)
            have HV := Lib.hid (show nearF D dn (k + 1) = if t = true then (k : Int) else m by
              rw [HS.out]
              unfold nearB
              rw [HB.out, HQ.out, Int.toNat_natCast, HMQ.out, ← ht]
              simp [show ¬ ((m : Int) < 0) by omega])
            obtain ⟨y, hy⟩ : ∃ x, cvW (some (qa, qb)) = x := ⟨_, rfl⟩
            rw [hy] at dm HLS
            clear hy ht hmq hmd
            go_wp2_with fail
            refine (HC.out _).mono ?_
            rintro e w1 ⟨rfl, rfl⟩
            go_wp2_with fail
            refine (HLS.out _).mono ?_
            rintro e w1 ⟨rfl, rfl⟩
            cases t
            · go_wp2_with fail
              go_roundw
              case rel => exact ⟨k + 1, by omega, by go_num, by rw [HV.out]; rfl, by first | rfl | trivial⟩
              case measure => simp [intOf]; omega
            · go_wp2_with fail
              go_roundw
              case rel => exact ⟨k + 1, by omega, by go_num, by rw [HV.out]; rfl, by first | rfl | trivial⟩
              case measure => simp [intOf]; omega
      · have HV := Lib.hid (show nearF D dn (k + 1) = z by rw [HS.out, if_neg]; unfold nearB; rw [HB.out]; simp)
        go_wp2_with fail
        go_roundw
        case rel => exact ⟨k + 1, by omega, by go_num, by rw [HV.out], by first | rfl | trivial⟩
        case measure => simp [intOf]; omega
    · obtain rfl : k = n := by omega
      go_wp2_with fail
      go_ret
      exact ⟨rfl, by first | rfl | trivial⟩

end Go.Proofs.Ytendaloeonbbeaa
