/- The document's database: without an entry, older, for less time. No statement is proved here. -/
import Derived.Test.YtemmfbedchfekaaBrF
import Derived.Test.YtemmfbedchfekaaFdJq
namespace Go.Proofs.Ytemmfbedchfekaa
open Go.RowKit Go.BigFrame Go.WideShapes Go.ChangeShapes Go.Deep
set_option linter.unusedVariables false
set_option linter.unusedSimpArgs false
set_option maxRecDepth 100000

theorem erase_lt {L : List En} {i k : Nat} {e : En} (hi : i ≤ L.length) (h : k < i) : (L.take i ++ [e]).eraseIdx k = (L.take i).eraseIdx k ++ [e] := by
  rw [List.eraseIdx_append_of_lt_length (by rw [List.length_take]; omega)]
theorem erase_gt {L : List En} {i k : Nat} {e : En} (hi : i ≤ L.length) (h : i < k) : (L.take i ++ [e]).eraseIdx k = (L.take i).eraseIdx k ++ [e] := by
  rw [List.eraseIdx_of_length_le (by rw [List.length_append, List.length_take, List.length_singleton]; omega), List.eraseIdx_of_length_le (by rw [List.length_take]; omega)]
theorem erase_eq {L : List En} {k : Nat} {e : En} (hi : k ≤ L.length) : (L.take k ++ [e]).eraseIdx k = (L.take k).eraseIdx k := by
  rw [List.eraseIdx_append_of_length_le (by rw [List.length_take]; omega), List.eraseIdx_of_length_le (l := L.take k) (by rw [List.length_take]; omega), List.length_take, show k - min k L.length = 0 by omega]
  simp
theorem erase_len (L : List En) (k : Nat) : (L.eraseIdx k).length ≤ L.length := by rw [List.length_eraseIdx]; split <;> omega
set_option maxRecDepth 100000 in
set_option maxHeartbeats 4000000 in
theorem d_without (w : World) (F : Nat → Prop) (wb : Nat) (L : List En) (most age : Int) (h : Dw w F wb L most age) (hF : ∀ k, F k → k < w.heap.size) (k : Nat) (hk : k < L.length) :
    Calls Try.prog 46 #[.pointer (some ⟨wb, 0, none⟩), .int .i64 k] w fun e w' => e = .returned (.tuple #[]) ∧ Dw w' F wb (L.eraseIdx k) most age ∧ Mut (fun n => n = wb) w w' := by
  obtain ⟨a, cap, hwl, hl, hcells, hrows⟩ := h.reads
  have HC := Lib.hid hcells
  have HR := Lib.hid hrows
  have HD := Lib.hid h
  have HF := Lib.hid hF
  clear hcells hrows h hF
  go_enter Try.func46, Try.ntmps46
  go_wp2_with fail
  go_loopw [4, 5] (fun u s wr => ∃ (i : Nat) (v : Value) (wo : World), wo = wr ∧ v = u ∧ i ≤ L.length ∧ s = .int .i64 i ∧ Ext w wo ∧ wo.ownsRow w.heap.size 58 3 v ((L.take i).eraseIdx k).length (evs ((L.take i).eraseIdx k))) (fun _ s _ => L.length - (intOf s).toNat)
  case atStart => exact ⟨0, _, _, rfl, rfl, by omega, rfl, Ext.refl _, ⟨by simp [evs], .inl ⟨by simp, rfl⟩⟩⟩
  case round =>
    obtain ⟨i, v, wo, rfl, rfl, hi, rfl, hx, hown⟩ := hrel
    rename World => wr
    have HX := Lib.hid hx
    have HO := Lib.hid hown
    obtain ⟨-, -, c2, -⟩ := HC.out wr hx
    clear hx hown
    by_cases hlt : i < L.length
    · have dlt : decide ((i : Int) < (L.length : Int)) = true := by simp; omega
      obtain ⟨b, off, rfl, hlc, hcm, hrg⟩ := HR.out (by omega)
      obtain ⟨y, q, t, he⟩ : ∃ y q t, L[i] = (y, q, t) := ⟨_, _, _, rfl⟩
      have hr := hrg wr HX.out i hlt
      rw [he] at hr
      have HTK := Lib.hid (show L.take (i + 1) = L.take i ++ [(y, q, t)] by rw [List.take_add_one, List.getElem?_eq_getElem hlt, he]; rfl)
      have HDR := Lib.hid (show L.drop i = (y, q, t) :: L.drop (i + 1) by rw [List.drop_eq_getElem_cons hlt, he])
      have hup : IntKind.i64.wrap ((i : Int) + 1) = ((i + 1 : Nat) : Int) := by rw [IntKind.wrap_i64]; omega
      have HE := Lib.hid he
      have hr1 := Lib.hid hr
      clear he hrg hr
      by_cases hik : i = k
      · subst hik
        go_wp2_with fail
        go_roundw
        case rel => exact ⟨i + 1, _, _, rfl, rfl, by omega, by go_num, HX.out, by rw [HTK.out, erase_eq hi]; exact HO.out⟩
        case measure => simp [intOf] <;> omega
      · have dk : ((i : Int) == (k : Int)) = false := by simp; omega
        have hln : ((L.take i).eraseIdx k).length ≤ 10000 := by have := erase_len (L.take i) k; rw [List.length_take] at this; omega
        go_wp2_with (first
          | fail
          | ((with_reducible refine at_load 58 ?_); refine wpList_load_mid rfl 58 _ rfl b (off + i * 3) rfl (ev (y, q, t)) _ hr1.out Try.underlying58 rfl size_dent ?_)
          | ((with_reducible refine at_bs 40 ?_); refine wpList_one rfl _ rfl (y, q, t) rfl ?_
             intro X wq hX hs hxq)
          | (at_builtin; refine wpList_snoc rfl _ _ rfl w (HX.out.trans hxq) v ((L.take i).eraseIdx k) rfl (owns_ext HO.out (hxq)) X (y, q, t) rfl hX hln ?_
             intro v' w6 ho6 hx6))
        have HO6 := Lib.hid (show w6.ownsRow w.heap.size 58 3 v' ((L.take (i + 1)).eraseIdx k).length (evs ((L.take (i + 1)).eraseIdx k)) by
          rw [HTK.out]
          rcases Nat.lt_or_ge i k with h1 | h1
          · rw [erase_gt hi h1]; exact ho6
          · rw [erase_lt hi (by omega)]; exact ho6)
        have HX6 := Lib.hid hx6
        clear ho6 hx6 hX hs hxq c2
        go_wp2_with fail
        go_roundw
        case rel => exact ⟨i + 1, _, _, rfl, rfl, by omega, by go_num, HX6.out, HO6.out⟩
        case measure => simp [intOf] <;> omega
    · obtain rfl : i = L.length := by omega
      have dlt : decide ((L.length : Int) < (L.length : Int)) = false := by simp
      have ho := HO.out
      rw [List.take_length] at ho
      obtain ⟨a', cap', rfl⟩ := own_form ho
      have HO2 := Lib.hid ho
      clear ho HO
      obtain ⟨N, hN⟩ : ∃ N, (L.eraseIdx k).length = N := ⟨_, rfl⟩
      rw [hN]
      go_wp2_with (first
        | fail
        | ((with_reducible refine at_store 40 ?_); refine st_at rfl rfl 40 _ _ rfl wb 2 _ #[.slice a' N cap'] #[.int .i64 most, .int .i64 age, .slice a L.length cap] #[.int .i64 most, .int .i64 age, .slice a' N cap'] 42 rfl rfl rfl (HC.out wr HX.out).2.2.2 (by exact (by decide : 2 + 1 ≤ 3)) (by kernel_rfl) rfl rfl ?_
           intro w7 hrow7 hm7))
      go_end0
      subst hN
      exact ⟨rfl, HD.out.put HF.out HX.out HO2.out (Nat.le_refl _) (by have := erase_len L k; omega) hrow7 hm7⟩
theorem fm_len' (st : En → Option En) (L : List En) : (L.filterMap st).length ≤ L.length := List.length_filterMap_le _ _
theorem tick_gone {y q t t1 : Int} (ht : t - 1 = t1) (h : ¬ 0 < t1) : tickE (y, q, t) = none := by unfold tickE setSec; rw [if_pos rfl, if_pos (by dsimp only; omega)]
theorem tick_kept {y q t t1 : Int} (ht : t - 1 = t1) (h : 0 < t1) : tickE (y, q, t) = some (y, q, t1) := by subst ht; unfold tickE setSec; rw [if_pos rfl, if_neg (by dsimp only; omega)]
end Go.Proofs.Ytemmfbedchfekaa
