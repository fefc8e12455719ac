/- The library's sort: partialInsertionSort. No statement is proved here. -/
import Derived.Test.YtheackckmhbodaaSoF
namespace Go.Proofs.Ytheackckmhbodaa
open Go.RowKit Go.BigFrame Go.WideShapes Go.ChangeShapes Go.Deep
set_option linter.unusedVariables false
set_option linter.unusedSimpArgs false
set_option maxRecDepth 100000

theorem ss_go (b i : Nat) (d : Array Int) (h : (decide (i < b) && !ltI d[i]! d[i - 1]!) = true) : Go.Sort.scanSorted ltI d b i = Go.Sort.scanSorted ltI d b (i + 1) := by
  rw [Go.Sort.scanSorted, if_pos h]
theorem ss_stop (b i : Nat) (d : Array Int) (h : (decide (i < b) && !ltI d[i]! d[i - 1]!) = false) : Go.Sort.scanSorted ltI d b i = i := by
  rw [Go.Sort.scanSorted, if_neg (by rw [h]; decide)]
theorem shd_stop (j : Nat) (d : Array Int) (h : ltI d[j + 1]! d[j]! = false) : Go.Sort.shiftDown ltI (j + 1) d = d := by
  rw [Go.Sort.shiftDown, if_pos (by rw [h]; rfl)]
theorem shd_go (j : Nat) (d : Array Int) (h : ltI d[j + 1]! d[j]! = true) : Go.Sort.shiftDown ltI (j + 1) d = Go.Sort.shiftDown ltI j (Go.Sort.swp d (j + 1) j) := by
  rw [Go.Sort.shiftDown, if_neg (by rw [h]; decide)]
theorem shu_end (b j : Nat) (d : Array Int) (h : ¬ j < b) : Go.Sort.shiftUp ltI b j d = d := by
  rw [Go.Sort.shiftUp, if_neg h]
theorem shu_stop (b j : Nat) (d : Array Int) (h : ltI d[j]! d[j - 1]! = false) : Go.Sort.shiftUp ltI b j d = d := by
  rw [Go.Sort.shiftUp]
  split
  · rw [if_pos (by rw [h]; rfl)]
  · rfl
theorem shu_go (b j : Nat) (d : Array Int) (hj : j < b) (h : ltI d[j]! d[j - 1]! = true) : Go.Sort.shiftUp ltI b j d = Go.Sort.shiftUp ltI b (j + 1) (Go.Sort.swp d j (j - 1)) := by
  rw [Go.Sort.shiftUp, if_pos hj, if_neg (by rw [h]; decide)]
theorem pi_true (a b s i : Nat) (d : Array Int) (h : Go.Sort.scanSorted ltI d b i = b) : Go.Sort.partialIns ltI a b (s + 1) i d = (d, true) := by
  rw [Go.Sort.partialIns]
  dsimp only
  rw [h, if_pos rfl]
theorem pi_false (a b s i I : Nat) (d : Array Int) (h : Go.Sort.scanSorted ltI d b i = I) (hI : I ≠ b) (h50 : b - a < 50) : Go.Sort.partialIns ltI a b (s + 1) i d = (d, false) := by
  rw [Go.Sort.partialIns]
  dsimp only
  rw [h, if_neg hI, if_pos h50]
theorem pi_go (a b s i I : Nat) (d D1 D2 : Array Int) (h : Go.Sort.scanSorted ltI d b i = I) (hI : I ≠ b) (h50 : ¬ b - a < 50) (h1 : (if I - a ≥ 2 then Go.Sort.shiftDown ltI (I - 1) (Go.Sort.swp d I (I - 1)) else Go.Sort.swp d I (I - 1)) = D1) (h2 : (if b - I ≥ 2 then Go.Sort.shiftUp ltI b (I + 1) D1 else D1) = D2) :
    Go.Sort.partialIns ltI a b (s + 1) i d = Go.Sort.partialIns ltI a b s I D2 := by
  rw [Go.Sort.partialIns]
  dsimp only
  rw [h, if_neg hI, if_neg h50, h1, h2]
/-- What partialInsertionSort leaves. -/
def PinsP (w : World) (g n : Nat) (r : Array Int × Bool) (e : Ending) (w' : World) : Prop := ∃ (ok : Bool) (d' : Array Int), e = .returned (.bool ok) ∧ r = (d', ok) ∧ SoP w g n d' w'
set_option maxRecDepth 100000 in
set_option maxHeartbeats 2000000 in
theorem pins_any (w : World) (g n cap : Nat) (l0 : List Int) (a b : Nat) (hab : a < b) (hb : b ≤ n) (hn : n ≤ 500) (h : Nums w g l0) (hl0 : l0.length = n) :
    Calls Try.prog 46 #[(.slice (some ⟨g, 0, none⟩) n cap), .int .i64 a, .int .i64 b] w (PinsP w g n (Go.Sort.partialInsertionSort ltI l0.toArray a b)) := by
  obtain ⟨R, hR⟩ : ∃ R, Go.Sort.partialInsertionSort ltI l0.toArray a b = R := ⟨_, rfl⟩
  rw [hR]
  obtain ⟨i0, hi0⟩ : ∃ i0, a + 1 = i0 := ⟨_, rfl⟩
  have H0 := Lib.hid (show ∃ l : List Int, Nums w g l ∧ l.length = n ∧ Go.Sort.partialIns ltI a b 5 i0 l.toArray = R ∧ Mut (fun k => k = g) w w from ⟨l0, h, hl0, by rw [← hR, ← hi0]; rfl, Mut.refl _ w⟩)
  have HI0 := Lib.hid hi0
  have hw1 : IntKind.i64.wrap ((a : Int) + 1) = (i0 : Int) := by rw [IntKind.wrap_i64]; omega
  clear h hl0 hR hi0
  clear l0
  go_enter Try.func46, Try.ntmps46
  go_wp2_with fail
  go_loopw [7, 8] (fun u v wr => ∃ (i t s : Nat) (l : List Int), u = .int .i64 i ∧ v = .int .i64 t ∧ t + s = 5 ∧ (a + 1 ≤ i ∧ i ≤ b) ∧ Nums wr g l ∧ l.length = n ∧ Go.Sort.partialIns ltI a b s i l.toArray = R ∧ Mut (fun k => k = g) w wr) (fun _ v _ => 6 - (intOf v).toNat)
  case atStart =>
    obtain ⟨l, q1, q2, q3, q4⟩ := H0.out
    exact ⟨i0, 0, 5, l, rfl, rfl, rfl, by have := HI0.out; omega, q1, q2, q3, q4⟩
  case round =>
    clear H0 HI0 hw1
    obtain ⟨i', t, s, l, rfl, rfl, hts, hlb, hnu, hln, hso, hmu⟩ := hrel
    rename World => wl
    have NU := Lib.hid hnu
    have MU := Lib.hid hmu
    have SO := Lib.hid hso
    have LB := Lib.hid hlb
    clear hnu hmu hso hlb
    cases s with
    | zero =>
      have dt : decide ((t : Int) < (5 : Int)) = false := by simp; omega
      clear hts
      have HD := Lib.hid (show (l.toArray, false) = R from SO.out)
      go_wp2_with fail
      go_ret
      exact ⟨false, l.toArray, rfl, HD.out.symm, l, NU.out, hln, rfl, MU.out⟩
    | succ s =>
      have dt : decide ((t : Int) < (5 : Int)) = true := by simp; omega
      have TS := Lib.hid (show t + (s + 1) = 5 from hts)
      clear hts
      obtain ⟨I, hI⟩ : ∃ I, Go.Sort.scanSorted ltI l.toArray b i' = I := ⟨_, rfl⟩
      have HS := Lib.hid hI
      have HS0 := Lib.hid hI
      clear hI
      go_wp2_with fail
      go_loopw [7] (fun u wr => ∃ i : Nat, u = .int .i64 i ∧ (a + 1 ≤ i ∧ i ≤ b) ∧ Nums wr g l ∧ Go.Sort.scanSorted ltI l.toArray b i = I ∧ Mut (fun k => k = g) w wr) (fun u _ => b + 1 - (intOf u).toNat)
      case atStart => exact ⟨i', rfl, LB.out, NU.out, HS.out, MU.out⟩
      case round =>
        clear HS LB NU MU dt
        obtain ⟨i, rfl, hlb, hnu, hsc, hmu⟩ := hrel
        rename World => wl
        have LB := Lib.hid hlb
        have NU := Lib.hid hnu
        have MU := Lib.hid hmu
        have SC := Lib.hid hsc
        clear hlb hnu hmu hsc
        obtain ⟨c, hc⟩ : ∃ c, (decide (i < b) && !ltI l.toArray[i]! l.toArray[i - 1]!) = c := ⟨_, rfl⟩
        have HC := Lib.hid hc
        clear hc
        go_upto_region 5 with fail
        go_cut [32] from 17 to 34 (fun s wx => s = .bool c ∧ Nums wx g l ∧ Mut (fun k => k = g) w wx)
        case first =>
          by_cases hij : i < b
          · have dij : decide ((i : Int) < (b : Int)) = true := by simp; omega
            obtain ⟨ip, hip⟩ : ∃ ip, i - 1 = ip := ⟨_, rfl⟩
            have hip9 : ip + 1 = i := by have := LB.out; omega
            have HIP := Lib.hid hip
            have hin : i < n := by omega
            have hipn : ip < n := by omega
            obtain ⟨x, hvp⟩ : ∃ x, at0 l i = x := ⟨_, rfl⟩
            obtain ⟨y, hvq⟩ : ∃ y, at0 l ip = y := ⟨_, rfl⟩
            have hdn : IntKind.i64.wrap ((i : Int) - 1) = (ip : Int) := by rw [IntKind.wrap_i64]; omega
            clear hip
            refine beginL (S := fun W' => Ext wl W') (by kernel_rfl) ?_
            intro wd hqx
            have hq0 : Ext wl wd := hqx
            refine takeL (i := 0) (v := (.int .i64 (i : Int))) rfl (by kernel_rfl) (by kernel_rfl) (by kernel_rfl) (fun _ _ _ h => h) (Or.inl ⟨rfl, fun _ _ => rfl⟩) hq0 ?_
            simp only [Act.put, List.setIfInBounds_toArray, List.set_cons_zero, List.set_cons_succ]
            refine takeL (i := 1) (v := (.int .i64 (b : Int))) rfl (by kernel_rfl) (by kernel_rfl) (by kernel_rfl) (fun _ _ _ h => h) (Or.inl ⟨rfl, fun _ _ => rfl⟩) hq0 ?_
            simp only [Act.put, List.setIfInBounds_toArray, List.set_cons_zero, List.set_cons_succ]
            refine takeL (i := 2) (v := (.bool true)) rfl (by kernel_rfl) (by kernel_rfl) (by kernel_rfl) (fun _ _ _ h => h) (Or.inl ⟨rfl, fun W' _ => by go_simp⟩) hq0 ?_
            simp only [Act.put, List.setIfInBounds_toArray, List.set_cons_zero, List.set_cons_succ]
            refine takeL (i := 3) (v := (.bool true)) rfl (by kernel_rfl) (by kernel_rfl) (by kernel_rfl) (fun _ _ _ h => h) (Or.inl ⟨rfl, fun _ _ => rfl⟩) hq0 ?_
            simp only [Act.put, List.setIfInBounds_toArray, List.set_cons_zero, List.set_cons_succ]
            refine takeL (i := 4) (v := (.slice (some ⟨g, 0, none⟩) n cap)) rfl (by kernel_rfl) (by kernel_rfl) (by kernel_rfl) (fun _ _ _ h => h) (Or.inl ⟨rfl, fun _ _ => rfl⟩) hq0 ?_
            simp only [Act.put, List.setIfInBounds_toArray, List.set_cons_zero, List.set_cons_succ]
            refine takeL (i := 5) (v := (.int .i64 (i : Int))) rfl (by kernel_rfl) (by kernel_rfl) (by kernel_rfl) (fun _ _ _ h => h) (Or.inl ⟨rfl, fun _ _ => rfl⟩) hq0 ?_
            simp only [Act.put, List.setIfInBounds_toArray, List.set_cons_zero, List.set_cons_succ]
            refine takeL (i := 6) (v := (.pointer (some ⟨g, i, none⟩))) rfl (by kernel_rfl) (by kernel_rfl) (by kernel_rfl) (fun _ _ _ h => h) (Or.inl ⟨rfl, fun W' _ => by go_simp <;> (intro h; omega)⟩) hq0 ?_
            simp only [Act.put, List.setIfInBounds_toArray, List.set_cons_zero, List.set_cons_succ]
            refine takeL (i := 7) (v := _) rfl (by kernel_rfl) (by kernel_rfl) (by kernel_rfl) (fun _ _ _ h => h) (yieldsIf_cell rfl 30 _ rfl ⟨g, i, none⟩ rfl (.int .u64 x) _ (fun W' hW' => (show W'.cell? ⟨g, i, none⟩ = _ from (NU.out.ext hW').cell (by omega)).trans (by rw [hvp])) Try.underlying30 rfl) hq0 ?_
            simp only [Act.put, List.setIfInBounds_toArray, List.set_cons_zero, List.set_cons_succ]
            refine takeL (i := 8) (v := (.slice (some ⟨g, 0, none⟩) n cap)) rfl (by kernel_rfl) (by kernel_rfl) (by kernel_rfl) (fun _ _ _ h => h) (Or.inl ⟨rfl, fun _ _ => rfl⟩) hq0 ?_
            simp only [Act.put, List.setIfInBounds_toArray, List.set_cons_zero, List.set_cons_succ]
            refine takeL (i := 9) (v := (.int .i64 (i : Int))) rfl (by kernel_rfl) (by kernel_rfl) (by kernel_rfl) (fun _ _ _ h => h) (Or.inl ⟨rfl, fun _ _ => rfl⟩) hq0 ?_
            simp only [Act.put, List.setIfInBounds_toArray, List.set_cons_zero, List.set_cons_succ]
            refine takeL (i := 10) (v := (.int .i64 (ip : Int))) rfl (by kernel_rfl) (by kernel_rfl) (by kernel_rfl) (fun _ _ _ h => h) (Or.inl ⟨rfl, fun W' _ => by go_simp <;> (rw [IntKind.wrap_i64]; omega)⟩) hq0 ?_
            simp only [Act.put, List.setIfInBounds_toArray, List.set_cons_zero, List.set_cons_succ]
            refine takeL (i := 11) (v := (.pointer (some ⟨g, ip, none⟩))) rfl (by kernel_rfl) (by kernel_rfl) (by kernel_rfl) (fun _ _ _ h => h) (Or.inl ⟨rfl, fun W' _ => by go_simp <;> (intro h; omega)⟩) hq0 ?_
            simp only [Act.put, List.setIfInBounds_toArray, List.set_cons_zero, List.set_cons_succ]
            refine takeL (i := 12) (v := _) rfl (by kernel_rfl) (by kernel_rfl) (by kernel_rfl) (fun _ _ _ h => h) (yieldsIf_cell rfl 30 _ rfl ⟨g, ip, none⟩ rfl (.int .u64 y) _ (fun W' hW' => (show W'.cell? ⟨g, ip, none⟩ = _ from (NU.out.ext hW').cell (by omega)).trans (by rw [hvq])) Try.underlying30 rfl) hq0 ?_
            simp only [Act.put, List.setIfInBounds_toArray, List.set_cons_zero, List.set_cons_succ]
            refine runG (i := 13) rfl (by rfl) (by kernel_rfl) (fun K hK => ?_)
            go_simp
            refine (less_ext x y _).mono ?_
            rintro e wc1 ⟨rfl, hx⟩
            have hq1 := hq0.trans hx
            refine hK.out _ _ hq1 (fun hHeld => ?_)
            try simp only [Act.put, List.setIfInBounds_toArray, List.set_cons_zero, List.set_cons_succ]
            clear hK K hHeld
            refine takeL (i := 14) (v := (.bool (!(decide (x < y))))) rfl (by kernel_rfl) (by kernel_rfl) (by kernel_rfl) (fun _ _ _ h => h) (Or.inl ⟨rfl, fun W' _ => by go_simp⟩) hq1 ?_
            simp only [Act.put, List.setIfInBounds_toArray, List.set_cons_zero, List.set_cons_succ]
            refine takeL (i := 15) (v := (.bool (!(decide (x < y))))) rfl (by kernel_rfl) (by kernel_rfl) (by kernel_rfl) (fun _ _ _ h => h) (Or.inl ⟨rfl, fun _ _ => rfl⟩) hq1 ?_
            simp only [Act.put, List.setIfInBounds_toArray, List.set_cons_zero, List.set_cons_succ]
            refine wpAnyH_done (by kernel_rfl) ?_ _
            have NU2 := Lib.hid (NU.out.ext hq1)
            have MU2 := Lib.hid (MU.out.trans (hq1.mut (fun k => k = g)))
            clear hq0 hqx hq1
            generalize hwn0 : wc1 = w5 at *
            go_wp2_with fail
            go_meet
            exact ⟨congrArg Value.bool (by rw [← HC.out, decide_eq_true hij, HIP.out, arr_at l (by omega), arr_at l (by omega), hvp, hvq]; rfl), NU2.out, MU2.out⟩
          · have dij : decide ((i : Int) < (b : Int)) = false := by simp; omega
            refine beginL (S := fun W' => Ext wl W') (by kernel_rfl) ?_
            intro wd hqx
            have hq0 : Ext wl wd := hqx
            refine takeL (i := 0) (v := (.int .i64 (i : Int))) rfl (by kernel_rfl) (by kernel_rfl) (by kernel_rfl) (fun _ _ _ h => h) (Or.inl ⟨rfl, fun _ _ => rfl⟩) hq0 ?_
            simp only [Act.put, List.setIfInBounds_toArray, List.set_cons_zero, List.set_cons_succ]
            refine takeL (i := 1) (v := (.int .i64 (b : Int))) rfl (by kernel_rfl) (by kernel_rfl) (by kernel_rfl) (fun _ _ _ h => h) (Or.inl ⟨rfl, fun _ _ => rfl⟩) hq0 ?_
            simp only [Act.put, List.setIfInBounds_toArray, List.set_cons_zero, List.set_cons_succ]
            refine takeL (i := 2) (v := (.bool false)) rfl (by kernel_rfl) (by kernel_rfl) (by kernel_rfl) (fun _ _ _ h => h) (Or.inl ⟨rfl, fun W' _ => by go_simp⟩) hq0 ?_
            simp only [Act.put, List.setIfInBounds_toArray, List.set_cons_zero, List.set_cons_succ]
            refine takeL (i := 3) (v := (.bool false)) rfl (by kernel_rfl) (by kernel_rfl) (by kernel_rfl) (fun _ _ _ h => h) (Or.inl ⟨rfl, fun _ _ => rfl⟩) hq0 ?_
            simp only [Act.put, List.setIfInBounds_toArray, List.set_cons_zero, List.set_cons_succ]
            refine takeL (i := 4) (v := undef) rfl (by kernel_rfl) (by kernel_rfl) (by kernel_rfl) (fun _ _ _ h => h) (Or.inr ⟨rfl, rfl⟩) hq0 ?_
            simp only [Act.put, List.setIfInBounds_toArray, List.set_cons_zero, List.set_cons_succ]
            refine takeL (i := 5) (v := undef) rfl (by kernel_rfl) (by kernel_rfl) (by kernel_rfl) (fun _ _ _ h => h) (Or.inr ⟨rfl, rfl⟩) hq0 ?_
            simp only [Act.put, List.setIfInBounds_toArray, List.set_cons_zero, List.set_cons_succ]
            refine takeL (i := 6) (v := undef) rfl (by kernel_rfl) (by kernel_rfl) (by kernel_rfl) (fun _ _ _ h => h) (Or.inr ⟨rfl, rfl⟩) hq0 ?_
            simp only [Act.put, List.setIfInBounds_toArray, List.set_cons_zero, List.set_cons_succ]
            refine takeL (i := 7) (v := undef) rfl (by kernel_rfl) (by kernel_rfl) (by kernel_rfl) (fun _ _ _ h => h) (Or.inr ⟨rfl, rfl⟩) hq0 ?_
            simp only [Act.put, List.setIfInBounds_toArray, List.set_cons_zero, List.set_cons_succ]
            refine takeL (i := 8) (v := undef) rfl (by kernel_rfl) (by kernel_rfl) (by kernel_rfl) (fun _ _ _ h => h) (Or.inr ⟨rfl, rfl⟩) hq0 ?_
            simp only [Act.put, List.setIfInBounds_toArray, List.set_cons_zero, List.set_cons_succ]
            refine takeL (i := 9) (v := undef) rfl (by kernel_rfl) (by kernel_rfl) (by kernel_rfl) (fun _ _ _ h => h) (Or.inr ⟨rfl, rfl⟩) hq0 ?_
            simp only [Act.put, List.setIfInBounds_toArray, List.set_cons_zero, List.set_cons_succ]
            refine takeL (i := 10) (v := undef) rfl (by kernel_rfl) (by kernel_rfl) (by kernel_rfl) (fun _ _ _ h => h) (Or.inr ⟨rfl, rfl⟩) hq0 ?_
            simp only [Act.put, List.setIfInBounds_toArray, List.set_cons_zero, List.set_cons_succ]
            refine takeL (i := 11) (v := undef) rfl (by kernel_rfl) (by kernel_rfl) (by kernel_rfl) (fun _ _ _ h => h) (Or.inr ⟨rfl, rfl⟩) hq0 ?_
            simp only [Act.put, List.setIfInBounds_toArray, List.set_cons_zero, List.set_cons_succ]
            refine takeL (i := 12) (v := undef) rfl (by kernel_rfl) (by kernel_rfl) (by kernel_rfl) (fun _ _ _ h => h) (Or.inr ⟨rfl, rfl⟩) hq0 ?_
            simp only [Act.put, List.setIfInBounds_toArray, List.set_cons_zero, List.set_cons_succ]
            refine takeL (i := 13) (v := undef) rfl (by kernel_rfl) (by kernel_rfl) (by kernel_rfl) (fun _ _ _ h => h) (Or.inr ⟨rfl, rfl⟩) hq0 ?_
            simp only [Act.put, List.setIfInBounds_toArray, List.set_cons_zero, List.set_cons_succ]
            refine takeL (i := 14) (v := undef) rfl (by kernel_rfl) (by kernel_rfl) (by kernel_rfl) (fun _ _ _ h => h) (Or.inr ⟨rfl, rfl⟩) hq0 ?_
            simp only [Act.put, List.setIfInBounds_toArray, List.set_cons_zero, List.set_cons_succ]
            refine takeL (i := 15) (v := (.bool false)) rfl (by kernel_rfl) (by kernel_rfl) (by kernel_rfl) (fun _ _ _ h => h) (Or.inl ⟨rfl, fun _ _ => rfl⟩) hq0 ?_
            simp only [Act.put, List.setIfInBounds_toArray, List.set_cons_zero, List.set_cons_succ]
            refine wpAnyH_done (by kernel_rfl) ?_ _
            have NU2 := Lib.hid (NU.out.ext hq0)
            have MU2 := Lib.hid (MU.out.trans (hq0.mut (fun k => k = g)))
            clear hq0 hqx
            generalize hwn0 : wd = w5 at *
            go_wp2_with fail
            go_meet
            exact ⟨congrArg Value.bool (by rw [← HC.out, decide_eq_false hij]; rfl), NU2.out, MU2.out⟩
        case rest =>
          obtain ⟨rfl, hnu, hmu⟩ := hcut
          have NU2 := Lib.hid hnu
          have MU2 := Lib.hid hmu
          clear hnu hmu NU MU
          rename World => wx
          cases c with
          | true =>
            have hij : i < b := by
              have := HC.out
              rw [Bool.and_eq_true, decide_eq_true_eq] at this
              exact this.1
            have SC2 := Lib.hid (show Go.Sort.scanSorted ltI l.toArray b (i + 1) = I from by rw [← SC.out]; exact (ss_go _ _ _ HC.out).symm)
            have LB2 := Lib.hid (show a + 1 ≤ i + 1 ∧ i + 1 ≤ b from by have := LB.out; omega)
            have hup : IntKind.i64.wrap ((i : Int) + 1) = ((i + 1 : Nat) : Int) := by have := LB.out; rw [IntKind.wrap_i64]; omega
            go_wp2_with fail
            go_roundw
            case rel => exact ⟨i + 1, by go_num, LB2.out, NU2.out, SC2.out, MU2.out⟩
            case measure => simp [intOf] <;> omega
          | false =>
            have HSC := Lib.hid (show Go.Sort.scanSorted ltI l.toArray b i' = i from by rw [HS0.out, ← SC.out]; exact ss_stop _ _ _ HC.out)
            have NU := NU2
            have MU := MU2
            clear SC HC NU2 MU2 HS0
            by_cases hib : i = b
            · have HD := Lib.hid (pi_true a b s i' l.toArray (HSC.out.trans hib))
              have dib : ((i : Int) == (b : Int)) = true := by simp; omega
              have dib2 : decide ((i : Int) = (b : Int)) = true := by simp; omega
              have hib2 := Lib.hid hib
              clear hib
              go_wp2_with fail
              go_ret
              exact ⟨true, l.toArray, rfl, by rw [← HD.out]; exact SO.out.symm, l, NU.out, hln, rfl, MU.out⟩
            · have dib : ((i : Int) == (b : Int)) = false := by simp; omega
              have dib2 : decide ((i : Int) = (b : Int)) = false := by simp; omega
              have hlb : i < b := by have := LB.out; omega
              by_cases h50 : b - a < 50
              · have HD := Lib.hid (pi_false a b s i' i l.toArray HSC.out hib h50)
                have hw5 : IntKind.i64.wrap ((b : Int) - (a : Int)) = (b : Int) - (a : Int) := by rw [IntKind.wrap_i64]; omega
                have d50 : decide ((b : Int) - (a : Int) < 50) = true := by simp; omega
                clear h50
                go_wp2_with fail
                go_ret
                exact ⟨false, l.toArray, rfl, by rw [← HD.out]; exact SO.out.symm, l, NU.out, hln, rfl, MU.out⟩
              · have hw5 : IntKind.i64.wrap ((b : Int) - (a : Int)) = (b : Int) - (a : Int) := by rw [IntKind.wrap_i64]; omega
                have d50 : decide ((b : Int) - (a : Int) < 50) = false := by simp; omega
                obtain ⟨D1, hD1⟩ : ∃ D1, (if i - a ≥ 2 then Go.Sort.shiftDown ltI (i - 1) (Go.Sort.swp l.toArray i (i - 1)) else Go.Sort.swp l.toArray i (i - 1)) = D1 := ⟨_, rfl⟩
                obtain ⟨D2, hD2⟩ : ∃ D2, (if b - i ≥ 2 then Go.Sort.shiftUp ltI b (i + 1) D1 else D1) = D2 := ⟨_, rfl⟩
                have SO9 := Lib.hid (show Go.Sort.partialIns ltI a b s i D2 = R from by rw [← SO.out, pi_go a b s i' i l.toArray D1 D2 HSC.out hib h50 hD1 hD2])
                obtain ⟨ip, hip⟩ : ∃ ip, i - 1 = ip := ⟨_, rfl⟩
                obtain ⟨i1, hi1⟩ : ∃ i1, i + 1 = i1 := ⟨_, rfl⟩
                have hi0 : a + 1 ≤ i := by have := LB.out; omega
                have hii : ip + 1 = i := by omega
                rw [hip] at hD1
                rw [hi1] at hD2
                have HD2 := Lib.hid hD2
                obtain ⟨x, hvp⟩ : ∃ x, at0 l i = x := ⟨_, rfl⟩
                obtain ⟨y, hvq⟩ : ∃ y, at0 l ip = y := ⟨_, rfl⟩
                have hwd : IntKind.i64.wrap ((i : Int) - 1) = (ip : Int) := by rw [IntKind.wrap_i64]; omega
                have hwu : IntKind.i64.wrap ((i : Int) + 1) = (i1 : Int) := by rw [IntKind.wrap_i64]; omega
                have HII := Lib.hid (And.intro hii hi1)
                rw [← swl_arr l (by omega) (by omega)] at hD1
                have HD1 := Lib.hid hD1
                have hin : i < n := by omega
                have hipn : ip < n := by omega
                clear hip hi1 hii hD1 hD2 h50 hib SO HSC
                go_wp2_with fail
                refine beginZ (S := fun W' => Ext wx W') 15 (by kernel_rfl) ?_
                intro wd hqx
                have hq0 : Ext wx wd := hqx
                refine takeY (i := 0) (z := 15) (v := (.slice (some ⟨g, 0, none⟩) n cap)) rfl (by kernel_rfl) (by kernel_rfl) (by kernel_rfl) (by kernel_rfl) (fun _ _ _ h => h) (Or.inl ⟨rfl, fun _ _ => rfl⟩) hq0 ?_
                simp only [Act.put, List.setIfInBounds_toArray, List.set_cons_zero, List.set_cons_succ]
                refine takeY (i := 1) (z := 15) (v := (.int .i64 (i : Int))) rfl (by kernel_rfl) (by kernel_rfl) (by kernel_rfl) (by kernel_rfl) (fun _ _ _ h => h) (Or.inl ⟨rfl, fun _ _ => rfl⟩) hq0 ?_
                simp only [Act.put, List.setIfInBounds_toArray, List.set_cons_zero, List.set_cons_succ]
                refine takeY (i := 2) (z := 15) (v := (.slice (some ⟨g, 0, none⟩) n cap)) rfl (by kernel_rfl) (by kernel_rfl) (by kernel_rfl) (by kernel_rfl) (fun _ _ _ h => h) (Or.inl ⟨rfl, fun _ _ => rfl⟩) hq0 ?_
                simp only [Act.put, List.setIfInBounds_toArray, List.set_cons_zero, List.set_cons_succ]
                refine takeY (i := 3) (z := 15) (v := (.int .i64 (i : Int))) rfl (by kernel_rfl) (by kernel_rfl) (by kernel_rfl) (by kernel_rfl) (fun _ _ _ h => h) (Or.inl ⟨rfl, fun _ _ => rfl⟩) hq0 ?_
                simp only [Act.put, List.setIfInBounds_toArray, List.set_cons_zero, List.set_cons_succ]
                refine takeY (i := 4) (z := 15) (v := (.int .i64 (ip : Int))) rfl (by kernel_rfl) (by kernel_rfl) (by kernel_rfl) (by kernel_rfl) (fun _ _ _ h => h) (Or.inl ⟨rfl, fun W' _ => by go_simp <;> (rw [IntKind.wrap_i64]; omega)⟩) hq0 ?_
                simp only [Act.put, List.setIfInBounds_toArray, List.set_cons_zero, List.set_cons_succ]
                refine takeY (i := 5) (z := 15) (v := (.slice (some ⟨g, 0, none⟩) n cap)) rfl (by kernel_rfl) (by kernel_rfl) (by kernel_rfl) (by kernel_rfl) (fun _ _ _ h => h) (Or.inl ⟨rfl, fun _ _ => rfl⟩) hq0 ?_
                simp only [Act.put, List.setIfInBounds_toArray, List.set_cons_zero, List.set_cons_succ]
                refine takeY (i := 6) (z := 15) (v := (.int .i64 (i : Int))) rfl (by kernel_rfl) (by kernel_rfl) (by kernel_rfl) (by kernel_rfl) (fun _ _ _ h => h) (Or.inl ⟨rfl, fun _ _ => rfl⟩) hq0 ?_
                simp only [Act.put, List.setIfInBounds_toArray, List.set_cons_zero, List.set_cons_succ]
                refine takeY (i := 7) (z := 15) (v := (.int .i64 (ip : Int))) rfl (by kernel_rfl) (by kernel_rfl) (by kernel_rfl) (by kernel_rfl) (fun _ _ _ h => h) (Or.inl ⟨rfl, fun W' _ => by go_simp <;> (rw [IntKind.wrap_i64]; omega)⟩) hq0 ?_
                simp only [Act.put, List.setIfInBounds_toArray, List.set_cons_zero, List.set_cons_succ]
                refine takeY (i := 8) (z := 15) (v := (.pointer (some ⟨g, ip, none⟩))) rfl (by kernel_rfl) (by kernel_rfl) (by kernel_rfl) (by kernel_rfl) (fun _ _ _ h => h) (Or.inl ⟨rfl, fun W' _ => by go_simp <;> (intro h; omega)⟩) hq0 ?_
                simp only [Act.put, List.setIfInBounds_toArray, List.set_cons_zero, List.set_cons_succ]
                refine takeZ (i := 9) (z := 15) (v := _) rfl rfl (by kernel_rfl) (by kernel_rfl) (by kernel_rfl) (by kernel_rfl) (by kernel_rfl) (by kernel_rfl) (fun _ _ _ h => h) (yieldsIf_cell rfl 30 _ rfl ⟨g, ip, none⟩ rfl (.int .u64 y) _ (fun W' hW' => (show W'.cell? ⟨g, ip, none⟩ = _ from (NU.out.ext hW').cell (by omega)).trans (by rw [hvq])) Try.underlying30 rfl) hq0 ?_
                simp only [Act.put, List.setIfInBounds_toArray, List.set_cons_zero, List.set_cons_succ]
                refine takeY (i := 10) (z := 15) (v := (.slice (some ⟨g, 0, none⟩) n cap)) rfl (by kernel_rfl) (by kernel_rfl) (by kernel_rfl) (by kernel_rfl) (fun _ _ _ h => h) (Or.inl ⟨rfl, fun _ _ => rfl⟩) hq0 ?_
                simp only [Act.put, List.setIfInBounds_toArray, List.set_cons_zero, List.set_cons_succ]
                refine takeY (i := 11) (z := 15) (v := (.int .i64 (i : Int))) rfl (by kernel_rfl) (by kernel_rfl) (by kernel_rfl) (by kernel_rfl) (fun _ _ _ h => h) (Or.inl ⟨rfl, fun _ _ => rfl⟩) hq0 ?_
                simp only [Act.put, List.setIfInBounds_toArray, List.set_cons_zero, List.set_cons_succ]
                refine takeY (i := 12) (z := 15) (v := (.pointer (some ⟨g, i, none⟩))) rfl (by kernel_rfl) (by kernel_rfl) (by kernel_rfl) (by kernel_rfl) (fun _ _ _ h => h) (Or.inl ⟨rfl, fun W' _ => by go_simp <;> (intro h; omega)⟩) hq0 ?_
                simp only [Act.put, List.setIfInBounds_toArray, List.set_cons_zero, List.set_cons_succ]
                refine takeZ (i := 13) (z := 15) (v := _) rfl rfl (by kernel_rfl) (by kernel_rfl) (by kernel_rfl) (by kernel_rfl) (by kernel_rfl) (by kernel_rfl) (fun _ _ _ h => h) (yieldsIf_cell rfl 30 _ rfl ⟨g, i, none⟩ rfl (.int .u64 x) _ (fun W' hW' => (show W'.cell? ⟨g, i, none⟩ = _ from (NU.out.ext hW').cell (by omega)).trans (by rw [hvp])) Try.underlying30 rfl) hq0 ?_
                simp only [Act.put, List.setIfInBounds_toArray, List.set_cons_zero, List.set_cons_succ]
                refine takeY (i := 14) (z := 15) (v := (.pointer (some ⟨g, i, none⟩))) rfl (by kernel_rfl) (by kernel_rfl) (by kernel_rfl) (by kernel_rfl) (fun _ _ _ h => h) (Or.inl ⟨rfl, fun W' _ => by go_simp <;> (intro h; omega)⟩) hq0 ?_
                simp only [Act.put, List.setIfInBounds_toArray, List.set_cons_zero, List.set_cons_succ]
                refine runZl (z := 15) rfl rfl (by kernel_rfl) (fun K hK => ?_)
                have hce := (NU.out.ext hq0)
                have hc1 : wd.cell? ⟨g, i, none⟩ = some (.int .u64 (at0 l (i))) := hce.cell (by omega)
                have hf1 := hce.froz (i)
                go_simp
                refine hK.out _ _ ?_
                try simp only [Act.put, List.setIfInBounds_toArray, List.set_cons_zero, List.set_cons_succ]
                clear hK K hc1 hf1
                have hce2 := hce.set (p := i) (by omega) (at0 l (ip))
                rw [hvq] at hce2
                have hq9 := (hq0.mut (fun k => k = g)).setCell (p := ⟨g, i, none⟩) (.inl rfl) (.int .u64 y)
                refine takeL (i := 16) (v := (.pointer (some ⟨g, ip, none⟩))) rfl (by kernel_rfl) (by kernel_rfl) (by kernel_rfl) (fun _ _ _ h => h) (Or.inl ⟨rfl, fun W' _ => by go_simp <;> (intro h; omega)⟩) trivial ?_
                simp only [Act.put, List.setIfInBounds_toArray, List.set_cons_zero, List.set_cons_succ]
                refine runL (i := 17) rfl rfl (by kernel_rfl) (fun K hK => ?_)
                have hc2 : (wd.setCell ⟨g, i, none⟩ (.int .u64 y)).cell? ⟨g, ip, none⟩ = some (.int .u64 (at0 (l.set (i) y) (ip))) := hce2.cell (by simp; omega)
                have hf2 := hce2.froz (ip)
                go_simp
                refine hK.out _ _ trivial (fun _ => ?_)
                try simp only [Act.put, List.setIfInBounds_toArray, List.set_cons_zero, List.set_cons_succ]
                clear hK K hc2 hf2
                refine wpAnyH_done (by kernel_rfl) ?_ _
                have hce3 := hce2.set (p := ip) (by simp; omega) (at0 l (i))
                rw [hvp] at hce3
                have NU3 := Lib.hid (show Nums _ g (swl l (i) (ip)) from by unfold swl; rw [hvp, hvq]; exact hce3)
                have MU3 := Lib.hid (hq9.setCell (p := ⟨g, ip, none⟩) (.inl rfl) (.int .u64 x))
                clear hce hce2 hce3 hq9 hq0 hqx
                generalize (wd.setCell ⟨g, i, none⟩ (.int .u64 y)).setCell ⟨g, ip, none⟩ (.int .u64 x) = wm at *
                clear hvp hvq
                have MU4 := Lib.hid (MU.out.trans MU3.out)
                have H1 := Lib.hid (show ∃ l2 : List Int, Nums wm g l2 ∧ l2.length = n ∧ l2.toArray = (swl l i ip).toArray ∧ Mut (fun k => k = g) w wm from ⟨_, NU3.out, by rw [swl_len]; exact hln, rfl, MU4.out⟩)
                have hw6 : IntKind.i64.wrap ((i : Int) - (a : Int)) = (i : Int) - (a : Int) := by rw [IntKind.wrap_i64]; omega
                go_upto_if 61 with fail
                go_cut [9] from 13 to 132 (fun s wx => ∃ l : List Int, Nums wx g l ∧ l.length = n ∧ l.toArray = D1 ∧ Mut (fun k => k = g) w wx)
                case first =>
                  by_cases h2 : 2 ≤ i - a
                  · have d2 : decide ((2 : Int) ≤ (i : Int) - (a : Int)) = true := by simp; omega
                    have d2b : decide ((i : Int) - (a : Int) ≥ (2 : Int)) = true := by simp; omega
                    have H2 := Lib.hid (show ∃ l2 : List Int, Nums wm g l2 ∧ l2.length = n ∧ Go.Sort.shiftDown ltI ip l2.toArray = D1 ∧ Mut (fun k => k = g) w wm from by
                      have h := HD1.out
                      rw [if_pos h2] at h
                      exact ⟨_, NU3.out, by rw [swl_len]; exact hln, h, MU4.out⟩)
                    have hip2 : ip < i := by have := HII.out.1; omega
                    clear H1
                    go_wp2_with fail
                    rw [d2]
                    clear d2 d2b hw6 hw5 h2
                    go_loopw [9] (fun s wr => ∃ (j : Nat) (l : List Int), s = .int .i64 j ∧ j < i ∧ Nums wr g l ∧ l.length = n ∧ Go.Sort.shiftDown ltI j l.toArray = D1 ∧ Mut (fun k => k = g) w wr) (fun s _ => (intOf s).toNat)
                    case atStart =>
                      obtain ⟨l, q1, q2, q3, q4⟩ := H2.out
                      exact ⟨ip, l, rfl, by omega, q1, q2, q3, q4⟩
                    case round =>
                      clear H2
                      obtain ⟨j, l, rfl, hjb, hnu, hln, hso, hmu⟩ := hrel
                      rename World => wl
                      have NU := Lib.hid hnu
                      have MU := Lib.hid hmu
                      have SO := Lib.hid hso
                      have JB := Lib.hid hjb
                      clear hnu hmu hso hjb
                      have hji : j < i := JB.out
                      cases j with
                      | zero =>
                        have dj : decide ((1 : Int) ≤ (0 : Int)) = false := by decide
                        have HD := Lib.hid (show l.toArray = D1 from SO.out)
                        go_wp2_with fail
                        go_meet
                        case rel => exact ⟨l, NU.out, hln, HD.out, MU.out⟩
                      | succ q =>
                        obtain ⟨j, hj⟩ : ∃ j, q + 1 = j := ⟨_, rfl⟩
                        rw [hj] at SO ⊢
                        have HJ := Lib.hid hj
                        have hjn : j < n := by omega
                        have hqn : q < n := by omega
                        have hj1 : 1 ≤ j := by omega
                        have dj : decide ((1 : Int) ≤ (j : Int)) = true := by simp; omega
                        have dj2 : decide ((j : Int) ≥ (1 : Int)) = true := by simp; omega
                        have hdn : IntKind.i64.wrap ((j : Int) - 1) = (q : Int) := by rw [IntKind.wrap_i64]; omega
                        obtain ⟨x, hvp⟩ : ∃ x, at0 l j = x := ⟨_, rfl⟩
                        obtain ⟨y, hvq⟩ : ∃ y, at0 l q = y := ⟨_, rfl⟩
                        clear hj JB
                        go_wp2_with fail
                        refine beginL (S := fun W' => Ext wl W') (by kernel_rfl) ?_
                        intro wd hqx
                        have hq0 : Ext wl wd := hqx
                        refine takeL (i := 0) (v := (.slice (some ⟨g, 0, none⟩) n cap)) rfl (by kernel_rfl) (by kernel_rfl) (by kernel_rfl) (fun _ _ _ h => h) (Or.inl ⟨rfl, fun _ _ => rfl⟩) hq0 ?_
                        simp only [Act.put, List.setIfInBounds_toArray, List.set_cons_zero, List.set_cons_succ]
                        refine takeL (i := 1) (v := (.int .i64 (j : Int))) rfl (by kernel_rfl) (by kernel_rfl) (by kernel_rfl) (fun _ _ _ h => h) (Or.inl ⟨rfl, fun _ _ => rfl⟩) hq0 ?_
                        simp only [Act.put, List.setIfInBounds_toArray, List.set_cons_zero, List.set_cons_succ]
                        refine takeL (i := 2) (v := (.pointer (some ⟨g, j, none⟩))) rfl (by kernel_rfl) (by kernel_rfl) (by kernel_rfl) (fun _ _ _ h => h) (Or.inl ⟨rfl, fun W' _ => by go_simp <;> (intro h; omega)⟩) hq0 ?_
                        simp only [Act.put, List.setIfInBounds_toArray, List.set_cons_zero, List.set_cons_succ]
                        refine takeL (i := 3) (v := _) rfl (by kernel_rfl) (by kernel_rfl) (by kernel_rfl) (fun _ _ _ h => h) (yieldsIf_cell rfl 30 _ rfl ⟨g, j, none⟩ rfl (.int .u64 x) _ (fun W' hW' => (show W'.cell? ⟨g, j, none⟩ = _ from (NU.out.ext hW').cell (by omega)).trans (by rw [hvp])) Try.underlying30 rfl) hq0 ?_
                        simp only [Act.put, List.setIfInBounds_toArray, List.set_cons_zero, List.set_cons_succ]
                        refine takeL (i := 4) (v := (.slice (some ⟨g, 0, none⟩) n cap)) rfl (by kernel_rfl) (by kernel_rfl) (by kernel_rfl) (fun _ _ _ h => h) (Or.inl ⟨rfl, fun _ _ => rfl⟩) hq0 ?_
                        simp only [Act.put, List.setIfInBounds_toArray, List.set_cons_zero, List.set_cons_succ]
                        refine takeL (i := 5) (v := (.int .i64 (j : Int))) rfl (by kernel_rfl) (by kernel_rfl) (by kernel_rfl) (fun _ _ _ h => h) (Or.inl ⟨rfl, fun _ _ => rfl⟩) hq0 ?_
                        simp only [Act.put, List.setIfInBounds_toArray, List.set_cons_zero, List.set_cons_succ]
                        refine takeL (i := 6) (v := (.int .i64 (q : Int))) rfl (by kernel_rfl) (by kernel_rfl) (by kernel_rfl) (fun _ _ _ h => h) (Or.inl ⟨rfl, fun W' _ => by go_simp <;> (rw [IntKind.wrap_i64]; omega)⟩) hq0 ?_
                        simp only [Act.put, List.setIfInBounds_toArray, List.set_cons_zero, List.set_cons_succ]
                        refine takeL (i := 7) (v := (.pointer (some ⟨g, q, none⟩))) rfl (by kernel_rfl) (by kernel_rfl) (by kernel_rfl) (fun _ _ _ h => h) (Or.inl ⟨rfl, fun W' _ => by go_simp <;> (intro h; omega)⟩) hq0 ?_
                        simp only [Act.put, List.setIfInBounds_toArray, List.set_cons_zero, List.set_cons_succ]
                        refine takeL (i := 8) (v := _) rfl (by kernel_rfl) (by kernel_rfl) (by kernel_rfl) (fun _ _ _ h => h) (yieldsIf_cell rfl 30 _ rfl ⟨g, q, none⟩ rfl (.int .u64 y) _ (fun W' hW' => (show W'.cell? ⟨g, q, none⟩ = _ from (NU.out.ext hW').cell (by omega)).trans (by rw [hvq])) Try.underlying30 rfl) hq0 ?_
                        simp only [Act.put, List.setIfInBounds_toArray, List.set_cons_zero, List.set_cons_succ]
                        refine runL (i := 9) rfl rfl (by kernel_rfl) (fun K hK => ?_)
                        go_simp
                        refine (less_ext x y _).mono ?_
                        rintro e wc1 ⟨rfl, hx⟩
                        have hq1 := hq0.trans hx
                        refine hK.out _ _ hq1 (fun hHeld => ?_)
                        try simp only [Act.put, List.setIfInBounds_toArray, List.set_cons_zero, List.set_cons_succ]
                        clear hK K hHeld
                        refine takeL (i := 10) (v := (.bool (!(decide (x < y))))) rfl (by kernel_rfl) (by kernel_rfl) (by kernel_rfl) (fun _ _ _ h => h) (Or.inl ⟨rfl, fun W' _ => by go_simp⟩) hq1 ?_
                        simp only [Act.put, List.setIfInBounds_toArray, List.set_cons_zero, List.set_cons_succ]
                        refine wpAnyH_done (by kernel_rfl) ?_ _
                        have NU2 := Lib.hid (NU.out.ext hq1)
                        have MU2 := Lib.hid (MU.out.trans (hq1.mut (fun k => k = g)))
                        clear hq0 hqx hq1
                        generalize hwn0 : wc1 = w5 at *
                        have HL := Lib.hid (show ltI l.toArray[j]! l.toArray[q]! = decide (x < y) from by
                          rw [arr_at l (by omega), arr_at l (by omega), hvp, hvq]
                          rfl)
                        obtain ⟨dx, hdx⟩ : ∃ dx, decide (x < y) = dx := ⟨_, rfl⟩
                        rw [hdx] at HL ⊢
                        clear hdx
                        cases dx with
                        | false =>
                          have HD := Lib.hid (show l.toArray = D1 from by
                            have h3 := HL.out
                            rw [← SO.out, ← HJ.out, shd_stop]
                            rw [HJ.out]
                            exact h3)
                          go_wp2_with fail
                          go_meet
                          case rel => exact ⟨l, NU2.out, hln, HD.out, MU2.out⟩
                        | true =>
                          have SO2 := Lib.hid (show Go.Sort.shiftDown ltI q (swl l j q).toArray = D1 from by
                            have h3 := HL.out
                            have h0 := SO.out
                            rw [← HJ.out] at h3
                            rw [← HJ.out, shd_go q _ h3, HJ.out] at h0
                            rw [swl_arr l (by omega) (by omega)]
                            exact h0)
                          clear SO
                          go_wp2_with fail
                          refine beginZ (S := fun W' => Ext w5 W') 15 (by kernel_rfl) ?_
                          intro wd hqx
                          have hq0 : Ext w5 wd := hqx
                          refine takeY (i := 0) (z := 15) (v := (.slice (some ⟨g, 0, none⟩) n cap)) rfl (by kernel_rfl) (by kernel_rfl) (by kernel_rfl) (by kernel_rfl) (fun _ _ _ h => h) (Or.inl ⟨rfl, fun _ _ => rfl⟩) hq0 ?_
                          simp only [Act.put, List.setIfInBounds_toArray, List.set_cons_zero, List.set_cons_succ]
                          refine takeY (i := 1) (z := 15) (v := (.int .i64 (j : Int))) rfl (by kernel_rfl) (by kernel_rfl) (by kernel_rfl) (by kernel_rfl) (fun _ _ _ h => h) (Or.inl ⟨rfl, fun _ _ => rfl⟩) hq0 ?_
                          simp only [Act.put, List.setIfInBounds_toArray, List.set_cons_zero, List.set_cons_succ]
                          refine takeY (i := 2) (z := 15) (v := (.slice (some ⟨g, 0, none⟩) n cap)) rfl (by kernel_rfl) (by kernel_rfl) (by kernel_rfl) (by kernel_rfl) (fun _ _ _ h => h) (Or.inl ⟨rfl, fun _ _ => rfl⟩) hq0 ?_
                          simp only [Act.put, List.setIfInBounds_toArray, List.set_cons_zero, List.set_cons_succ]
                          refine takeY (i := 3) (z := 15) (v := (.int .i64 (j : Int))) rfl (by kernel_rfl) (by kernel_rfl) (by kernel_rfl) (by kernel_rfl) (fun _ _ _ h => h) (Or.inl ⟨rfl, fun _ _ => rfl⟩) hq0 ?_
                          simp only [Act.put, List.setIfInBounds_toArray, List.set_cons_zero, List.set_cons_succ]
                          refine takeY (i := 4) (z := 15) (v := (.int .i64 (q : Int))) rfl (by kernel_rfl) (by kernel_rfl) (by kernel_rfl) (by kernel_rfl) (fun _ _ _ h => h) (Or.inl ⟨rfl, fun W' _ => by go_simp <;> (rw [IntKind.wrap_i64]; omega)⟩) hq0 ?_
                          simp only [Act.put, List.setIfInBounds_toArray, List.set_cons_zero, List.set_cons_succ]
                          refine takeY (i := 5) (z := 15) (v := (.slice (some ⟨g, 0, none⟩) n cap)) rfl (by kernel_rfl) (by kernel_rfl) (by kernel_rfl) (by kernel_rfl) (fun _ _ _ h => h) (Or.inl ⟨rfl, fun _ _ => rfl⟩) hq0 ?_
                          simp only [Act.put, List.setIfInBounds_toArray, List.set_cons_zero, List.set_cons_succ]
                          refine takeY (i := 6) (z := 15) (v := (.int .i64 (j : Int))) rfl (by kernel_rfl) (by kernel_rfl) (by kernel_rfl) (by kernel_rfl) (fun _ _ _ h => h) (Or.inl ⟨rfl, fun _ _ => rfl⟩) hq0 ?_
                          simp only [Act.put, List.setIfInBounds_toArray, List.set_cons_zero, List.set_cons_succ]
                          refine takeY (i := 7) (z := 15) (v := (.int .i64 (q : Int))) rfl (by kernel_rfl) (by kernel_rfl) (by kernel_rfl) (by kernel_rfl) (fun _ _ _ h => h) (Or.inl ⟨rfl, fun W' _ => by go_simp <;> (rw [IntKind.wrap_i64]; omega)⟩) hq0 ?_
                          simp only [Act.put, List.setIfInBounds_toArray, List.set_cons_zero, List.set_cons_succ]
                          refine takeY (i := 8) (z := 15) (v := (.pointer (some ⟨g, q, none⟩))) rfl (by kernel_rfl) (by kernel_rfl) (by kernel_rfl) (by kernel_rfl) (fun _ _ _ h => h) (Or.inl ⟨rfl, fun W' _ => by go_simp <;> (intro h; omega)⟩) hq0 ?_
                          simp only [Act.put, List.setIfInBounds_toArray, List.set_cons_zero, List.set_cons_succ]
                          refine takeZ (i := 9) (z := 15) (v := _) rfl rfl (by kernel_rfl) (by kernel_rfl) (by kernel_rfl) (by kernel_rfl) (by kernel_rfl) (by kernel_rfl) (fun _ _ _ h => h) (yieldsIf_cell rfl 30 _ rfl ⟨g, q, none⟩ rfl (.int .u64 y) _ (fun W' hW' => (show W'.cell? ⟨g, q, none⟩ = _ from (NU2.out.ext hW').cell (by omega)).trans (by rw [hvq])) Try.underlying30 rfl) hq0 ?_
                          simp only [Act.put, List.setIfInBounds_toArray, List.set_cons_zero, List.set_cons_succ]
                          refine takeY (i := 10) (z := 15) (v := (.slice (some ⟨g, 0, none⟩) n cap)) rfl (by kernel_rfl) (by kernel_rfl) (by kernel_rfl) (by kernel_rfl) (fun _ _ _ h => h) (Or.inl ⟨rfl, fun _ _ => rfl⟩) hq0 ?_
                          simp only [Act.put, List.setIfInBounds_toArray, List.set_cons_zero, List.set_cons_succ]
                          refine takeY (i := 11) (z := 15) (v := (.int .i64 (j : Int))) rfl (by kernel_rfl) (by kernel_rfl) (by kernel_rfl) (by kernel_rfl) (fun _ _ _ h => h) (Or.inl ⟨rfl, fun _ _ => rfl⟩) hq0 ?_
                          simp only [Act.put, List.setIfInBounds_toArray, List.set_cons_zero, List.set_cons_succ]
                          refine takeY (i := 12) (z := 15) (v := (.pointer (some ⟨g, j, none⟩))) rfl (by kernel_rfl) (by kernel_rfl) (by kernel_rfl) (by kernel_rfl) (fun _ _ _ h => h) (Or.inl ⟨rfl, fun W' _ => by go_simp <;> (intro h; omega)⟩) hq0 ?_
                          simp only [Act.put, List.setIfInBounds_toArray, List.set_cons_zero, List.set_cons_succ]
                          refine takeZ (i := 13) (z := 15) (v := _) rfl rfl (by kernel_rfl) (by kernel_rfl) (by kernel_rfl) (by kernel_rfl) (by kernel_rfl) (by kernel_rfl) (fun _ _ _ h => h) (yieldsIf_cell rfl 30 _ rfl ⟨g, j, none⟩ rfl (.int .u64 x) _ (fun W' hW' => (show W'.cell? ⟨g, j, none⟩ = _ from (NU2.out.ext hW').cell (by omega)).trans (by rw [hvp])) Try.underlying30 rfl) hq0 ?_
                          simp only [Act.put, List.setIfInBounds_toArray, List.set_cons_zero, List.set_cons_succ]
                          refine takeY (i := 14) (z := 15) (v := (.pointer (some ⟨g, j, none⟩))) rfl (by kernel_rfl) (by kernel_rfl) (by kernel_rfl) (by kernel_rfl) (fun _ _ _ h => h) (Or.inl ⟨rfl, fun W' _ => by go_simp <;> (intro h; omega)⟩) hq0 ?_
                          simp only [Act.put, List.setIfInBounds_toArray, List.set_cons_zero, List.set_cons_succ]
                          refine runZl (z := 15) rfl rfl (by kernel_rfl) (fun K hK => ?_)
                          have hce := (NU2.out.ext hq0)
                          have hc1 : wd.cell? ⟨g, j, none⟩ = some (.int .u64 (at0 l (j))) := hce.cell (by omega)
                          have hf1 := hce.froz (j)
                          go_simp
                          refine hK.out _ _ ?_
                          try simp only [Act.put, List.setIfInBounds_toArray, List.set_cons_zero, List.set_cons_succ]
                          clear hK K hc1 hf1
                          have hce2 := hce.set (p := j) (by omega) (at0 l (q))
                          rw [hvq] at hce2
                          have hq9 := (hq0.mut (fun k => k = g)).setCell (p := ⟨g, j, none⟩) (.inl rfl) (.int .u64 y)
                          refine takeL (i := 16) (v := (.pointer (some ⟨g, q, none⟩))) rfl (by kernel_rfl) (by kernel_rfl) (by kernel_rfl) (fun _ _ _ h => h) (Or.inl ⟨rfl, fun W' _ => by go_simp <;> (intro h; omega)⟩) trivial ?_
                          simp only [Act.put, List.setIfInBounds_toArray, List.set_cons_zero, List.set_cons_succ]
                          refine runL (i := 17) rfl rfl (by kernel_rfl) (fun K hK => ?_)
                          have hc2 : (wd.setCell ⟨g, j, none⟩ (.int .u64 y)).cell? ⟨g, q, none⟩ = some (.int .u64 (at0 (l.set (j) y) (q))) := hce2.cell (by simp; omega)
                          have hf2 := hce2.froz (q)
                          go_simp
                          refine hK.out _ _ trivial (fun _ => ?_)
                          try simp only [Act.put, List.setIfInBounds_toArray, List.set_cons_zero, List.set_cons_succ]
                          clear hK K hc2 hf2
                          refine wpAnyH_done (by kernel_rfl) ?_ _
                          have hce3 := hce2.set (p := q) (by simp; omega) (at0 l (j))
                          rw [hvp] at hce3
                          have NU3 := Lib.hid (show Nums _ g (swl l (j) (q)) from by unfold swl; rw [hvp, hvq]; exact hce3)
                          have MU3 := Lib.hid (hq9.setCell (p := ⟨g, q, none⟩) (.inl rfl) (.int .u64 x))
                          clear hce hce2 hce3 hq9 hq0 hqx
                          generalize (wd.setCell ⟨g, j, none⟩ (.int .u64 y)).setCell ⟨g, q, none⟩ (.int .u64 x) = wm at *
                          go_wp2_with fail
                          go_roundw
                          case rel => exact ⟨q, swl l j q, rfl, by have := HJ.out; omega, NU3.out, by rw [swl_len]; exact hln, SO2.out, MU2.out.trans MU3.out⟩
                          case measure => have := HJ.out; simp [intOf] <;> omega
                  · have d2 : decide ((2 : Int) ≤ (i : Int) - (a : Int)) = false := by simp; omega
                    have d2b : decide ((i : Int) - (a : Int) ≥ (2 : Int)) = false := by simp; omega
                    have H2 := Lib.hid (show (swl l i ip).toArray = D1 from by
                      have h := HD1.out
                      rw [if_neg h2] at h
                      exact h)
                    go_wp2_with fail
                    go_meet
                    case rel => exact ⟨_, NU3.out, by rw [swl_len]; exact hln, H2.out, MU4.out⟩
                case rest =>
                  obtain ⟨l2, hnu, hln2, hd1, hmu⟩ := hcut
                  have NU5 := Lib.hid hnu
                  have MU5 := Lib.hid hmu
                  have HD5 := Lib.hid hd1
                  clear hnu hmu hd1 H1 HD1 NU3 MU3 MU4 NU MU hln
                  clear hw6
                  rename World => wy
                  have hw7 : IntKind.i64.wrap ((b : Int) - (i : Int)) = (b : Int) - (i : Int) := by rw [IntKind.wrap_i64]; omega
                  have TS9 := Lib.hid (show t + 1 + s = 5 from by have := TS.out; omega)
                  have hut : IntKind.i64.wrap ((t : Int) + 1) = ((t + 1 : Nat) : Int) := by have := TS.out; rw [IntKind.wrap_i64]; omega
                  by_cases h2 : 2 ≤ b - i
                  · have d2 : decide ((2 : Int) ≤ (b : Int) - (i : Int)) = true := by simp; omega
                    have d2b : decide ((b : Int) - (i : Int) ≥ (2 : Int)) = true := by simp; omega
                    have H2 := Lib.hid (show ∃ l2 : List Int, Nums wy g l2 ∧ l2.length = n ∧ Go.Sort.shiftUp ltI b i1 l2.toArray = D2 ∧ Mut (fun k => k = g) w wy from by
                      have h := HD2.out
                      rw [if_pos h2, ← HD5.out] at h
                      exact ⟨_, NU5.out, hln2, h, MU5.out⟩)
                    have hip2 : i < i1 ∧ i1 ≤ n := by have := HII.out.2; omega
                    clear NU5 MU5 HD5 hln2
                    clear l2
                    go_wp2_with fail
                    clear d2 d2b hw7 hw5 h2
                    go_loopw [10] (fun s wr => ∃ (j : Nat) (l : List Int), s = .int .i64 j ∧ (i < j ∧ j ≤ n) ∧ Nums wr g l ∧ l.length = n ∧ Go.Sort.shiftUp ltI b j l.toArray = D2 ∧ Mut (fun k => k = g) w wr) (fun s _ => n + 1 - (intOf s).toNat)
                    case atStart =>
                      obtain ⟨l, q1, q2, q3, q4⟩ := H2.out
                      exact ⟨i1, l, rfl, by omega, q1, q2, q3, q4⟩
                    case round =>
                      clear H2
                      obtain ⟨j, l, rfl, hjb, hnu, hln, hso, hmu⟩ := hrel
                      rename World => wl
                      have NU := Lib.hid hnu
                      have MU := Lib.hid hmu
                      have SO := Lib.hid hso
                      have JB := Lib.hid hjb
                      clear hnu hmu hso hjb
                      have hij : i < j := JB.out.1
                      have hjn9 : j ≤ n := JB.out.2
                      by_cases hjb : j < b
                      · have dj : decide ((j : Int) < (b : Int)) = true := by simp; omega
                        obtain ⟨q, hq⟩ : ∃ q, j - 1 = q := ⟨_, rfl⟩
                        have HJ := Lib.hid hq
                        have hjn : j < n := by omega
                        have hqn : q < n := by omega
                        have hdn : IntKind.i64.wrap ((j : Int) - 1) = (q : Int) := by rw [IntKind.wrap_i64]; omega
                        have hup : IntKind.i64.wrap ((j : Int) + 1) = ((j + 1 : Nat) : Int) := by rw [IntKind.wrap_i64]; omega
                        obtain ⟨x, hvp⟩ : ∃ x, at0 l j = x := ⟨_, rfl⟩
                        obtain ⟨y, hvq⟩ : ∃ y, at0 l q = y := ⟨_, rfl⟩
                        clear hq JB
                        go_wp2_with fail
                        refine beginL (S := fun W' => Ext wl W') (by kernel_rfl) ?_
                        intro wd hqx
                        have hq0 : Ext wl wd := hqx
                        refine takeL (i := 0) (v := (.slice (some ⟨g, 0, none⟩) n cap)) rfl (by kernel_rfl) (by kernel_rfl) (by kernel_rfl) (fun _ _ _ h => h) (Or.inl ⟨rfl, fun _ _ => rfl⟩) hq0 ?_
                        simp only [Act.put, List.setIfInBounds_toArray, List.set_cons_zero, List.set_cons_succ]
                        refine takeL (i := 1) (v := (.int .i64 (j : Int))) rfl (by kernel_rfl) (by kernel_rfl) (by kernel_rfl) (fun _ _ _ h => h) (Or.inl ⟨rfl, fun _ _ => rfl⟩) hq0 ?_
                        simp only [Act.put, List.setIfInBounds_toArray, List.set_cons_zero, List.set_cons_succ]
                        refine takeL (i := 2) (v := (.pointer (some ⟨g, j, none⟩))) rfl (by kernel_rfl) (by kernel_rfl) (by kernel_rfl) (fun _ _ _ h => h) (Or.inl ⟨rfl, fun W' _ => by go_simp <;> (intro h; omega)⟩) hq0 ?_
                        simp only [Act.put, List.setIfInBounds_toArray, List.set_cons_zero, List.set_cons_succ]
                        refine takeL (i := 3) (v := _) rfl (by kernel_rfl) (by kernel_rfl) (by kernel_rfl) (fun _ _ _ h => h) (yieldsIf_cell rfl 30 _ rfl ⟨g, j, none⟩ rfl (.int .u64 x) _ (fun W' hW' => (show W'.cell? ⟨g, j, none⟩ = _ from (NU.out.ext hW').cell (by omega)).trans (by rw [hvp])) Try.underlying30 rfl) hq0 ?_
                        simp only [Act.put, List.setIfInBounds_toArray, List.set_cons_zero, List.set_cons_succ]
                        refine takeL (i := 4) (v := (.slice (some ⟨g, 0, none⟩) n cap)) rfl (by kernel_rfl) (by kernel_rfl) (by kernel_rfl) (fun _ _ _ h => h) (Or.inl ⟨rfl, fun _ _ => rfl⟩) hq0 ?_
                        simp only [Act.put, List.setIfInBounds_toArray, List.set_cons_zero, List.set_cons_succ]
                        refine takeL (i := 5) (v := (.int .i64 (j : Int))) rfl (by kernel_rfl) (by kernel_rfl) (by kernel_rfl) (fun _ _ _ h => h) (Or.inl ⟨rfl, fun _ _ => rfl⟩) hq0 ?_
                        simp only [Act.put, List.setIfInBounds_toArray, List.set_cons_zero, List.set_cons_succ]
                        refine takeL (i := 6) (v := (.int .i64 (q : Int))) rfl (by kernel_rfl) (by kernel_rfl) (by kernel_rfl) (fun _ _ _ h => h) (Or.inl ⟨rfl, fun W' _ => by go_simp <;> (rw [IntKind.wrap_i64]; omega)⟩) hq0 ?_
                        simp only [Act.put, List.setIfInBounds_toArray, List.set_cons_zero, List.set_cons_succ]
                        refine takeL (i := 7) (v := (.pointer (some ⟨g, q, none⟩))) rfl (by kernel_rfl) (by kernel_rfl) (by kernel_rfl) (fun _ _ _ h => h) (Or.inl ⟨rfl, fun W' _ => by go_simp <;> (intro h; omega)⟩) hq0 ?_
                        simp only [Act.put, List.setIfInBounds_toArray, List.set_cons_zero, List.set_cons_succ]
                        refine takeL (i := 8) (v := _) rfl (by kernel_rfl) (by kernel_rfl) (by kernel_rfl) (fun _ _ _ h => h) (yieldsIf_cell rfl 30 _ rfl ⟨g, q, none⟩ rfl (.int .u64 y) _ (fun W' hW' => (show W'.cell? ⟨g, q, none⟩ = _ from (NU.out.ext hW').cell (by omega)).trans (by rw [hvq])) Try.underlying30 rfl) hq0 ?_
                        simp only [Act.put, List.setIfInBounds_toArray, List.set_cons_zero, List.set_cons_succ]
                        refine runL (i := 9) rfl rfl (by kernel_rfl) (fun K hK => ?_)
                        go_simp
                        refine (less_ext x y _).mono ?_
                        rintro e wc1 ⟨rfl, hx⟩
                        have hq1 := hq0.trans hx
                        refine hK.out _ _ hq1 (fun hHeld => ?_)
                        try simp only [Act.put, List.setIfInBounds_toArray, List.set_cons_zero, List.set_cons_succ]
                        clear hK K hHeld
                        refine takeL (i := 10) (v := (.bool (!(decide (x < y))))) rfl (by kernel_rfl) (by kernel_rfl) (by kernel_rfl) (fun _ _ _ h => h) (Or.inl ⟨rfl, fun W' _ => by go_simp⟩) hq1 ?_
                        simp only [Act.put, List.setIfInBounds_toArray, List.set_cons_zero, List.set_cons_succ]
                        refine wpAnyH_done (by kernel_rfl) ?_ _
                        have NU2 := Lib.hid (NU.out.ext hq1)
                        have MU2 := Lib.hid (MU.out.trans (hq1.mut (fun k => k = g)))
                        clear hq0 hqx hq1
                        generalize hwn0 : wc1 = w5 at *
                        have HL := Lib.hid (show ltI l.toArray[j]! l.toArray[q]! = decide (x < y) from by
                          rw [arr_at l (by omega), arr_at l (by omega), hvp, hvq]
                          rfl)
                        obtain ⟨dx, hdx⟩ : ∃ dx, decide (x < y) = dx := ⟨_, rfl⟩
                        rw [hdx] at HL ⊢
                        clear hdx
                        cases dx with
                        | false =>
                          have HD := Lib.hid (show l.toArray = D2 from by
                            have h3 := HL.out
                            rw [← HJ.out] at h3
                            rw [← SO.out, shu_stop b j _ h3])
                          have SO7 := Lib.hid (show Go.Sort.partialIns ltI a b s i l.toArray = R from by rw [HD.out]; exact SO9.out)
                          go_wp2_with fail
                          go_roundw
                          case rel => exact ⟨i, t + 1, s, l, rfl, by go_num, TS9.out, by have := LB.out; omega, NU2.out, hln, SO7.out, MU2.out⟩
                          case measure => have := TS.out; simp [intOf] <;> omega
                        | true =>
                          have SO2 := Lib.hid (show Go.Sort.shiftUp ltI b (j + 1) (swl l j q).toArray = D2 from by
                            have h3 := HL.out
                            have h0 := SO.out
                            rw [← HJ.out] at h3
                            rw [shu_go b j _ hjb h3, HJ.out] at h0
                            rw [swl_arr l (by omega) (by omega)]
                            exact h0)
                          clear SO
                          go_wp2_with fail
                          refine beginZ (S := fun W' => Ext w5 W') 15 (by kernel_rfl) ?_
                          intro wd hqx
                          have hq0 : Ext w5 wd := hqx
                          refine takeY (i := 0) (z := 15) (v := (.slice (some ⟨g, 0, none⟩) n cap)) rfl (by kernel_rfl) (by kernel_rfl) (by kernel_rfl) (by kernel_rfl) (fun _ _ _ h => h) (Or.inl ⟨rfl, fun _ _ => rfl⟩) hq0 ?_
                          simp only [Act.put, List.setIfInBounds_toArray, List.set_cons_zero, List.set_cons_succ]
                          refine takeY (i := 1) (z := 15) (v := (.int .i64 (j : Int))) rfl (by kernel_rfl) (by kernel_rfl) (by kernel_rfl) (by kernel_rfl) (fun _ _ _ h => h) (Or.inl ⟨rfl, fun _ _ => rfl⟩) hq0 ?_
                          simp only [Act.put, List.setIfInBounds_toArray, List.set_cons_zero, List.set_cons_succ]
                          refine takeY (i := 2) (z := 15) (v := (.slice (some ⟨g, 0, none⟩) n cap)) rfl (by kernel_rfl) (by kernel_rfl) (by kernel_rfl) (by kernel_rfl) (fun _ _ _ h => h) (Or.inl ⟨rfl, fun _ _ => rfl⟩) hq0 ?_
                          simp only [Act.put, List.setIfInBounds_toArray, List.set_cons_zero, List.set_cons_succ]
                          refine takeY (i := 3) (z := 15) (v := (.int .i64 (j : Int))) rfl (by kernel_rfl) (by kernel_rfl) (by kernel_rfl) (by kernel_rfl) (fun _ _ _ h => h) (Or.inl ⟨rfl, fun _ _ => rfl⟩) hq0 ?_
                          simp only [Act.put, List.setIfInBounds_toArray, List.set_cons_zero, List.set_cons_succ]
                          refine takeY (i := 4) (z := 15) (v := (.int .i64 (q : Int))) rfl (by kernel_rfl) (by kernel_rfl) (by kernel_rfl) (by kernel_rfl) (fun _ _ _ h => h) (Or.inl ⟨rfl, fun W' _ => by go_simp <;> (rw [IntKind.wrap_i64]; omega)⟩) hq0 ?_
                          simp only [Act.put, List.setIfInBounds_toArray, List.set_cons_zero, List.set_cons_succ]
                          refine takeY (i := 5) (z := 15) (v := (.slice (some ⟨g, 0, none⟩) n cap)) rfl (by kernel_rfl) (by kernel_rfl) (by kernel_rfl) (by kernel_rfl) (fun _ _ _ h => h) (Or.inl ⟨rfl, fun _ _ => rfl⟩) hq0 ?_
                          simp only [Act.put, List.setIfInBounds_toArray, List.set_cons_zero, List.set_cons_succ]
                          refine takeY (i := 6) (z := 15) (v := (.int .i64 (j : Int))) rfl (by kernel_rfl) (by kernel_rfl) (by kernel_rfl) (by kernel_rfl) (fun _ _ _ h => h) (Or.inl ⟨rfl, fun _ _ => rfl⟩) hq0 ?_
                          simp only [Act.put, List.setIfInBounds_toArray, List.set_cons_zero, List.set_cons_succ]
                          refine takeY (i := 7) (z := 15) (v := (.int .i64 (q : Int))) rfl (by kernel_rfl) (by kernel_rfl) (by kernel_rfl) (by kernel_rfl) (fun _ _ _ h => h) (Or.inl ⟨rfl, fun W' _ => by go_simp <;> (rw [IntKind.wrap_i64]; omega)⟩) hq0 ?_
                          simp only [Act.put, List.setIfInBounds_toArray, List.set_cons_zero, List.set_cons_succ]
                          refine takeY (i := 8) (z := 15) (v := (.pointer (some ⟨g, q, none⟩))) rfl (by kernel_rfl) (by kernel_rfl) (by kernel_rfl) (by kernel_rfl) (fun _ _ _ h => h) (Or.inl ⟨rfl, fun W' _ => by go_simp <;> (intro h; omega)⟩) hq0 ?_
                          simp only [Act.put, List.setIfInBounds_toArray, List.set_cons_zero, List.set_cons_succ]
                          refine takeZ (i := 9) (z := 15) (v := _) rfl rfl (by kernel_rfl) (by kernel_rfl) (by kernel_rfl) (by kernel_rfl) (by kernel_rfl) (by kernel_rfl) (fun _ _ _ h => h) (yieldsIf_cell rfl 30 _ rfl ⟨g, q, none⟩ rfl (.int .u64 y) _ (fun W' hW' => (show W'.cell? ⟨g, q, none⟩ = _ from (NU2.out.ext hW').cell (by omega)).trans (by rw [hvq])) Try.underlying30 rfl) hq0 ?_
                          simp only [Act.put, List.setIfInBounds_toArray, List.set_cons_zero, List.set_cons_succ]
                          refine takeY (i := 10) (z := 15) (v := (.slice (some ⟨g, 0, none⟩) n cap)) rfl (by kernel_rfl) (by kernel_rfl) (by kernel_rfl) (by kernel_rfl) (fun _ _ _ h => h) (Or.inl ⟨rfl, fun _ _ => rfl⟩) hq0 ?_
                          simp only [Act.put, List.setIfInBounds_toArray, List.set_cons_zero, List.set_cons_succ]
                          refine takeY (i := 11) (z := 15) (v := (.int .i64 (j : Int))) rfl (by kernel_rfl) (by kernel_rfl) (by kernel_rfl) (by kernel_rfl) (fun _ _ _ h => h) (Or.inl ⟨rfl, fun _ _ => rfl⟩) hq0 ?_
                          simp only [Act.put, List.setIfInBounds_toArray, List.set_cons_zero, List.set_cons_succ]
                          refine takeY (i := 12) (z := 15) (v := (.pointer (some ⟨g, j, none⟩))) rfl (by kernel_rfl) (by kernel_rfl) (by kernel_rfl) (by kernel_rfl) (fun _ _ _ h => h) (Or.inl ⟨rfl, fun W' _ => by go_simp <;> (intro h; omega)⟩) hq0 ?_
                          simp only [Act.put, List.setIfInBounds_toArray, List.set_cons_zero, List.set_cons_succ]
                          refine takeZ (i := 13) (z := 15) (v := _) rfl rfl (by kernel_rfl) (by kernel_rfl) (by kernel_rfl) (by kernel_rfl) (by kernel_rfl) (by kernel_rfl) (fun _ _ _ h => h) (yieldsIf_cell rfl 30 _ rfl ⟨g, j, none⟩ rfl (.int .u64 x) _ (fun W' hW' => (show W'.cell? ⟨g, j, none⟩ = _ from (NU2.out.ext hW').cell (by omega)).trans (by rw [hvp])) Try.underlying30 rfl) hq0 ?_
                          simp only [Act.put, List.setIfInBounds_toArray, List.set_cons_zero, List.set_cons_succ]
                          refine takeY (i := 14) (z := 15) (v := (.pointer (some ⟨g, j, none⟩))) rfl (by kernel_rfl) (by kernel_rfl) (by kernel_rfl) (by kernel_rfl) (fun _ _ _ h => h) (Or.inl ⟨rfl, fun W' _ => by go_simp <;> (intro h; omega)⟩) hq0 ?_
                          simp only [Act.put, List.setIfInBounds_toArray, List.set_cons_zero, List.set_cons_succ]
                          refine runZl (z := 15) rfl rfl (by kernel_rfl) (fun K hK => ?_)
                          have hce := (NU2.out.ext hq0)
                          have hc1 : wd.cell? ⟨g, j, none⟩ = some (.int .u64 (at0 l (j))) := hce.cell (by omega)
                          have hf1 := hce.froz (j)
                          go_simp
                          refine hK.out _ _ ?_
                          try simp only [Act.put, List.setIfInBounds_toArray, List.set_cons_zero, List.set_cons_succ]
                          clear hK K hc1 hf1
                          have hce2 := hce.set (p := j) (by omega) (at0 l (q))
                          rw [hvq] at hce2
                          have hq9 := (hq0.mut (fun k => k = g)).setCell (p := ⟨g, j, none⟩) (.inl rfl) (.int .u64 y)
                          refine takeL (i := 16) (v := (.pointer (some ⟨g, q, none⟩))) rfl (by kernel_rfl) (by kernel_rfl) (by kernel_rfl) (fun _ _ _ h => h) (Or.inl ⟨rfl, fun W' _ => by go_simp <;> (intro h; omega)⟩) trivial ?_
                          simp only [Act.put, List.setIfInBounds_toArray, List.set_cons_zero, List.set_cons_succ]
                          refine runL (i := 17) rfl rfl (by kernel_rfl) (fun K hK => ?_)
                          have hc2 : (wd.setCell ⟨g, j, none⟩ (.int .u64 y)).cell? ⟨g, q, none⟩ = some (.int .u64 (at0 (l.set (j) y) (q))) := hce2.cell (by simp; omega)
                          have hf2 := hce2.froz (q)
                          go_simp
                          refine hK.out _ _ trivial (fun _ => ?_)
                          try simp only [Act.put, List.setIfInBounds_toArray, List.set_cons_zero, List.set_cons_succ]
                          clear hK K hc2 hf2
                          refine wpAnyH_done (by kernel_rfl) ?_ _
                          have hce3 := hce2.set (p := q) (by simp; omega) (at0 l (j))
                          rw [hvp] at hce3
                          have NU3 := Lib.hid (show Nums _ g (swl l (j) (q)) from by unfold swl; rw [hvp, hvq]; exact hce3)
                          have MU3 := Lib.hid (hq9.setCell (p := ⟨g, q, none⟩) (.inl rfl) (.int .u64 x))
                          clear hce hce2 hce3 hq9 hq0 hqx
                          generalize (wd.setCell ⟨g, j, none⟩ (.int .u64 y)).setCell ⟨g, q, none⟩ (.int .u64 x) = wm at *
                          go_wp2_with fail
                          go_roundw
                          case rel => exact ⟨j + 1, swl l j q, rfl, by omega, NU3.out, by rw [swl_len]; exact hln, SO2.out, MU2.out.trans MU3.out⟩
                          case measure => simp [intOf] <;> omega
                      · have dj : decide ((j : Int) < (b : Int)) = false := by simp; omega
                        have HD := Lib.hid (show l.toArray = D2 from by rw [← SO.out, shu_end b j _ hjb])
                        have SO7 := Lib.hid (show Go.Sort.partialIns ltI a b s i l.toArray = R from by rw [HD.out]; exact SO9.out)
                        go_wp2_with fail
                        go_roundw
                        case rel => exact ⟨i, t + 1, s, l, rfl, by go_num, TS9.out, by have := LB.out; omega, NU.out, hln, SO7.out, MU.out⟩
                        case measure => have := TS.out; simp [intOf] <;> omega
                  · have d2 : decide ((2 : Int) ≤ (b : Int) - (i : Int)) = false := by simp; omega
                    have d2b : decide ((b : Int) - (i : Int) ≥ (2 : Int)) = false := by simp; omega
                    have H2 := Lib.hid (show l2.toArray = D2 from by
                      have h := HD2.out
                      rw [if_neg h2] at h
                      rw [HD5.out, h])
                    have SO7 := Lib.hid (show Go.Sort.partialIns ltI a b s i l2.toArray = R from by rw [H2.out]; exact SO9.out)
                    go_wp2_with fail
                    go_roundw
                    case rel => exact ⟨i, t + 1, s, l2, rfl, by go_num, TS9.out, by have := LB.out; omega, NU5.out, hln2, SO7.out, MU5.out⟩
                    case measure => have := TS.out; simp [intOf] <;> omega

end Go.Proofs.Ytheackckmhbodaa
