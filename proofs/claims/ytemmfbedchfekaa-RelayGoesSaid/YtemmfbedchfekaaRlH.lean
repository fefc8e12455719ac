/- Relay: what is forgotten, and where frames go, by the document. No statement is proved here. -/
import Derived.Test.YtemmfbedchfekaaRlG
namespace Go.Proofs.Ytemmfbedchfekaa
open Go.RowKit Go.BigFrame Go.WideShapes Go.ChangeShapes Go.Deep
set_option linter.unusedVariables false
set_option linter.unusedSimpArgs false
set_option maxRecDepth 100000

set_option maxRecDepth 100000 in
set_option maxHeartbeats 2000000 in
theorem q_flushall (w : World) (G : Nat → Prop) (wb : Nat) (L : List En) (most age : Int) (hd : Dw w G wb L most age) (hG : ∀ k, G k → k < w.heap.size) (hL : Ok age L) (Z : Nat) (c : Array Value) (B : Br) (hZ : w.heap[Z]? = some (.cells c 33 (0, 0))) (hZw : Z ≠ wb) (hGZ : G Z) (hbk : BrK w (fun k => k = wb) c B) (ho : B.ok) (hnf : B.nf ≤ 1000) (hcz : c.size = 20) (hsec : 0 ≤ secB B ∧ secB B < 1000)
    (zs : List Int) (hzs : B.fl = iv zs) :
    Calls Try.prog 13 #[.pointer (some ⟨Z, 0, none⟩), .pointer (some ⟨wb, 0, none⟩)] w fun e w' => e = .returned (.tuple #[]) ∧ Dw w' G wb (flushL B zs L) most age ∧ Mut (fun k => k = wb ∨ k = Z) w w' ∧ w'.heap[Z]? = some (.cells (clr c) 33 (0, 0)) := by
  have rd : ∀ w', Mut (fun k => k = wb) w w' → w'.heap[Z]? = some (.cells c 33 (0, 0)) ∧ BrC w' c B := fun w' hm => ⟨(hm.heap (heap_lt hZ) hZw).trans hZ, hbk w' hm.size (fun k hk hn => hm.heap hk hn)⟩
  obtain ⟨zs', hl, he, c1, c5, a, cap, c19, -⟩ := hbk.br.fls ho
  obtain rfl : zs' = zs := by
    rw [he] at hzs
    exact iv_inj hzs
  have RD := Lib.hid rd
  have HD := Lib.hid hd
  have HL := Lib.hid hL
  have C1 := Lib.hid (And.intro c1 (And.intro c5 c19))
  have HE := Lib.hid he
  have HZ := Lib.hid hZ
  obtain ⟨n, hn⟩ : ∃ n, zs'.length = n := ⟨_, rfl⟩
  have HNN := Lib.hid hn
  have hn1 : n ≤ 1000 := by omega
  clear rd hd hL c1 c5 c19 he hZ hn hzs hl hbk
  go_enter Try.func13, Try.ntmps13
  go_wp2_with fail
  go_loopw [4] (fun s wr => ∃ j : Nat, j ≤ n ∧ s = .int .i64 j ∧ Dw wr G wb (flushL B (zs'.take j) L) most age ∧ Mut (fun k => k = wb) w wr) (fun s _ => n - (intOf s).toNat)
  case atStart => exact ⟨0, by omega, rfl, by rw [List.take_zero]; exact HD.out, Mut.refl _ _⟩
  case round =>
    obtain ⟨j, hj, rfl, hdr, hm⟩ := hrel
    rename World => wr
    have HB := Lib.hid hdr
    have HM := Lib.hid hm
    obtain ⟨hZr, hbr⟩ := RD.out wr hm
    have d1 : wr.cell? ⟨Z, 1, none⟩ = some (.bool (B.hb 1)) := by rw [cell_of_row _ _ _ _ _ _ hZr]; exact C1.out.1
    have d5 : wr.cell? ⟨Z, 5, none⟩ = some (.int .i64 (B.hi 5)) := by rw [cell_of_row _ _ _ _ _ _ hZr]; exact C1.out.2.1
    have d19 : wr.cell? ⟨Z, 19, none⟩ = some (.slice a n cap) := by rw [cell_of_row _ _ _ _ _ _ hZr, ← HNN.out]; exact C1.out.2.2
    have HZr := Lib.hid hZr
    have hup : IntKind.i64.wrap ((j : Int) + 1) = ((j + 1 : Nat) : Int) := by rw [IntKind.wrap_i64]; omega
    clear hdr hm
    by_cases hlt : j < n
    · have dlt : decide ((j : Int) < (n : Int)) = true := by simp; omega
      have hjz : j < zs'.length := by rw [HNN.out]; exact hlt
      obtain ⟨zs2, hl2, he2, -, -, a2, cap2, c19, hz2⟩ := hbr.fls ho
      obtain rfl : zs2 = zs' := iv_inj (he2.symm.trans HE.out)
      obtain ⟨rfl, rfl⟩ : a2 = a ∧ cap2 = cap := by
        have := c19.symm.trans C1.out.2.2
        injection this with this
        injection this with h1 h2 h3
        exact ⟨h1, h3⟩
      obtain ⟨b, off, rfl, hb, hc1, hc2, hzr⟩ := hz2 (by omega)
      obtain ⟨z, hz⟩ : ∃ z, zs2[j] = z := ⟨_, rfl⟩
      have v0 : wr.cell? ⟨b, off + j, none⟩ = some (.int .i64 z) := by rw [← hz]; exact hzr j hjz
      have HTK := Lib.hid (show zs2.take (j + 1) = zs2.take j ++ [z] by rw [List.take_add_one, List.getElem?_eq_getElem hjz, hz]; rfl)
      obtain ⟨r, hr⟩ : ∃ r, B.hb 1 = r := ⟨_, rfl⟩
      rw [hr] at d1
      rw [HNN.out] at hc1
      have hGr := Lib.hid (show ∀ k, G k → k < wr.heap.size from fun k hk => Nat.lt_of_lt_of_le (hG k hk) HM.out.size)
      clear hbr hZr he2 c19 hz2 hzr hz hl2
      cases r with
      | true =>
        have HS := Lib.hid (show secB B = 0 by unfold secB; rw [if_pos hr])
        clear hr
        go_wp2_with fail
        refine (d_short wr G wb _ most age HB.out hGr.out (flushL_ok _ HL.out) z 0 (by omega)).mono ?_
        rintro e w1 ⟨rfl, p1, p2⟩
        have HP1 := Lib.hid (show Dw w1 G wb (shorts z 0 (flushL B (zs2.take j) L)) most age from by rw [← shD_short (flushL_ok _ HL.out)]; exact p1)
        have HP2 := Lib.hid (HM.out.trans p2)
        clear p1 p2
        go_wp2_with fail
        go_roundw
        case rel => exact ⟨j + 1, by omega, by go_num, by rw [HTK.out, flushL_snoc, HS.out]; exact HP1.out, HP2.out⟩
        case measure => simp [intOf] <;> omega
      | false =>
        have HS := Lib.hid (show secB B = B.hi 5 by unfold secB; rw [if_neg (by rw [hr]; decide)])
        obtain ⟨sc, hsc⟩ : ∃ sc, B.hi 5 = sc := ⟨_, rfl⟩
        rw [hsc] at d5 HS
        have hs2 : 0 ≤ sc ∧ sc < 1000 := by rw [← HS.out]; exact hsec
        clear hr hsc
        go_wp2_with fail
        refine (d_short wr G wb _ most age HB.out hGr.out (flushL_ok _ HL.out) z sc (by omega)).mono ?_
        rintro e w1 ⟨rfl, p1, p2⟩
        have HP1 := Lib.hid (show Dw w1 G wb (shorts z sc (flushL B (zs2.take j) L)) most age from by rw [← shD_short (flushL_ok _ HL.out), show max 0 sc = sc by omega]; exact p1)
        have HP2 := Lib.hid (HM.out.trans p2)
        clear p1 p2
        go_wp2_with fail
        go_roundw
        case rel => exact ⟨j + 1, by omega, by go_num, by rw [HTK.out, flushL_snoc, HS.out]; exact HP1.out, HP2.out⟩
        case measure => simp [intOf] <;> omega
    · obtain rfl : j = n := by omega
      have dlt : decide ((j : Int) < (j : Int)) = false := by simp
      have hrowc := Lib.hid (show (c.toList.take 19 ++ (#[Value.slice none 0 0] : Array Value).toList ++ c.toList.drop (19 + (#[Value.slice none 0 0] : Array Value).size)).toArray = clr c from row_clr hcz)
      have hlc := Lib.hid (show 19 + (#[Value.slice none 0 0] : Array Value).size ≤ c.size by rw [hcz]; decide)
      go_wp2_with (first
        | fail
        | ((with_reducible refine at_store 31 ?_); refine st_at rfl rfl 31 _ _ rfl Z 19 _ #[.slice none 0 0] c (clr c) 33 rfl rfl rfl HZr.out hlc.out (by kernel_rfl) rfl hrowc.out ?_
           intro w7 hrow7 hm7))
      go_end0
      have hfin := HB.out
      rw [List.take_of_length_le (by rw [HNN.out]; exact Nat.le_refl _)] at hfin
      exact ⟨rfl, hfin.keep (fun k hk hn => hm7.heap hk (fun hc => hn (by rw [show k = Z from hc]; exact hGZ))) hm7.size (fun _ _ h => h), (HM.out.mono (fun k _ h => .inl h)).trans (hm7.mono (fun k _ h => .inr h)), hrow7⟩
set_option maxRecDepth 100000 in
set_option maxHeartbeats 2000000 in
theorem ref_res (x : Int) (w : World) (hx : 0 ≤ x ∧ x < 18446744073709551616) : Calls Try.prog 15 #[.int .u64 x] w fun e w' => e = .returned (.bool (resB x)) ∧ w = w' := by
  obtain ⟨rb, hrb⟩ : ∃ rb, resB x = rb := ⟨_, rfl⟩
  rw [hrb]
  have HR := Lib.hid hrb
  clear hrb
  go_enter Try.func15, Try.ntmps15
  go_wp2_with fail
  refine (ref_addr x _ hx.1 hx.2).mono ?_
  rintro e _ ⟨rfl, rfl⟩
  obtain ⟨m, hm⟩ : ∃ m, x % 281474976710656 = m := ⟨_, rfl⟩
  have HR2 := Lib.hid (show (decide (1652522221568 ≤ m) && decide (m ≤ 1652522221583)) = rb from by have := HR.out; unfold resB at this; rw [hm] at this; exact this)
  rw [hm]
  clear hm HR
  by_cases h1 : 1652522221568 ≤ m
  · have d1 : decide (1652522221568 ≤ m) = true := by simpa using h1
    obtain ⟨d, hd⟩ : ∃ d, decide (m ≤ 1652522221583) = d := ⟨_, rfl⟩
    have HD := Lib.hid (And.intro d1 hd)
    clear h1
    go_wp2_with fail
    go_ret
    have h2 := HR2.out
    rw [HD.out.1, Bool.true_and, HD.out.2] at h2
    exact ⟨by rw [← h2]; rfl, rfl⟩
  · have d1 : decide (1652522221568 ≤ m) = false := by simpa using h1
    have HD := Lib.hid d1
    clear h1
    go_wp2_with fail
    go_ret
    have h2 := HR2.out
    rw [HD.out, Bool.false_and] at h2
    exact ⟨by rw [← h2]; rfl, rfl⟩

end Go.Proofs.Ytemmfbedchfekaa
