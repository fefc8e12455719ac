/- The document's database: for less time; learned. No statement is proved here. -/
import Derived.Test.YtemmfbedchfekaaBrF
import Derived.Test.YtemmfbedchfekaaFdKq
namespace Go.Proofs.Ytemmfbedchfekaa
open Go.RowKit Go.BigFrame Go.WideShapes Go.ChangeShapes Go.Deep
set_option linter.unusedVariables false
set_option linter.unusedSimpArgs false
set_option maxRecDepth 100000

/-- What the document makes of an entry that is to live for sec seconds at most. -/
def shD (port sec : Int) (e : En) : Option En := if e.2.1 = port then (if 0 < min e.2.2 sec then some (e.1, e.2.1, min e.2.2 sec) else none) else some e
def cntD (port : Int) : List En → Nat
  | [] => 0
  | a :: r => (if a.2.1 = port then 1 else 0) + cntD port r
theorem cntD_app (port : Int) : ∀ A B : List En, cntD port (A ++ B) = cntD port A + cntD port B
  | [], B => by simp [cntD]
  | a :: r, B => by
    show (if a.2.1 = port then 1 else 0) + cntD port (r ++ B) = (if a.2.1 = port then 1 else 0) + cntD port r + cntD port B
    rw [cntD_app port r B]; omega
theorem cntD_le (port : Int) : ∀ A : List En, cntD port A ≤ A.length
  | [] => by simp [cntD]
  | a :: r => by
    have := cntD_le port r
    show (if a.2.1 = port then 1 else 0) + cntD port r ≤ r.length + 1
    split <;> omega
theorem cntD_p (port : Int) : ∀ A : List En, cntP port (fun _ => false) A = cntD port A
  | [] => rfl
  | a :: r => by
    have := cntD_p port r
    show cntP port _ r + (if a.2.1 = port ∧ (fun _ => false) (ku a.1) = false then 1 else 0) = (if a.2.1 = port then 1 else 0) + cntD port r
    rw [this]
    by_cases h : a.2.1 = port
    · rw [if_pos h, if_pos ⟨h, rfl⟩]; omega
    · rw [if_neg h, if_neg (fun hc => h hc.1)]; omega
theorem shD_short {age port sec : Int} {L : List En} (hL : Ok age L) : L.filterMap (shD port (max 0 sec)) = shorts port sec L := by
  unfold shorts
  refine fm_congr (fun e he => ?_)
  have := (hL.2 e he).2.2
  unfold shD shortE setSec
  by_cases hp : e.2.1 = port
  · rw [if_pos hp, if_pos hp, if_pos rfl]
    by_cases h1 : 0 < min e.2.2 (max 0 sec)
    · rw [if_pos h1, if_neg (by omega), show min e.2.2 (max 0 sec) = min e.2.2 sec by omega]
    · rw [if_neg h1, if_pos (by omega)]
  · rw [if_neg hp, if_neg hp]
set_option maxRecDepth 100000 in
set_option maxHeartbeats 4000000 in
theorem d_short (w : World) (F : Nat → Prop) (wb : Nat) (L : List En) (most age : Int) (h : Dw w F wb L most age) (hF : ∀ k, F k → k < w.heap.size) (hL : Ok age L) (port sec : Int) (hs0 : 0 ≤ sec ∧ sec < 9223372036854775808) :
    Calls Try.prog 26 #[.pointer (some ⟨wb, 0, none⟩), .int .i64 port, .int .i64 sec] w fun e w' => e = .returned (.int .i64 (cntD port L)) ∧ Dw w' F wb (L.filterMap (shD port sec)) most age ∧ Mut (fun n => n = wb) w w' := by
  have HL := Lib.hid hL
  clear hL
  obtain ⟨a, cap, hwl, hl, hcells, hrows⟩ := h.reads
  have HC := Lib.hid hcells
  have HR := Lib.hid hrows
  have HD := Lib.hid h
  have HF := Lib.hid hF
  clear hcells hrows h hF
  go_enter Try.func26, Try.ntmps26
  go_wp2_with fail
  go_loopw [7, 8, 9] (fun z u s wr => ∃ (i : Nat) (v : Value) (wo : World), wo = wr ∧ v = u ∧ z = .int .i64 (cntD port (L.take i)) ∧ i ≤ L.length ∧ s = .int .i64 i ∧ Ext w wo ∧ wo.ownsRow w.heap.size 58 3 v ((L.take i).filterMap (shD port sec)).length (evs ((L.take i).filterMap (shD port sec)))) (fun _ _ s _ => L.length - (intOf s).toNat)
  case atStart => exact ⟨0, _, _, rfl, rfl, rfl, by omega, rfl, Ext.refl _, ⟨by simp [evs], .inl ⟨by simp, rfl⟩⟩⟩
  case round =>
    obtain ⟨i, v, wo, rfl, rfl, rfl, hi, rfl, hx, hown⟩ := hrel
    rename World => wr
    have HX := Lib.hid hx
    have HO := Lib.hid hown
    obtain ⟨-, -, c2, -⟩ := HC.out wr hx
    clear hx hown
    by_cases hlt : i < L.length
    · have dlt : decide ((i : Int) < (L.length : Int)) = true := by simp; omega
      obtain ⟨b, off, rfl, hlc, hcm, hrg⟩ := HR.out (by omega)
      obtain ⟨y, q, t, he⟩ : ∃ y q t, L[i] = (y, q, t) := ⟨_, _, _, rfl⟩
      have hr := hrg wr HX.out i hlt
      rw [he] at hr
      have HTK := Lib.hid (show L.take (i + 1) = L.take i ++ [(y, q, t)] by rw [List.take_add_one, List.getElem?_eq_getElem hlt, he]; rfl)
      have HDR := Lib.hid (show L.drop i = (y, q, t) :: L.drop (i + 1) by rw [List.drop_eq_getElem_cons hlt, he])
      have hup : IntKind.i64.wrap ((i : Int) + 1) = ((i + 1 : Nat) : Int) := by rw [IntKind.wrap_i64]; omega
      have HE := Lib.hid he
      have hr1 := Lib.hid hr
      clear he hrg hr
      have hb := HL.out.2 (y, q, t) (HE.out ▸ List.getElem_mem hlt)
      dsimp only at hb
      have hln : ((L.take i).filterMap (shD port sec)).length ≤ 10000 := by have := fm_len' (shD port sec) (L.take i); rw [List.length_take] at this; omega
      have hcn := cntD_le port (L.take i)
      rw [List.length_take] at hcn
      have hcw : IntKind.i64.wrap ((cntD port (L.take i) : Int) + 1) = ((cntD port (L.take i) + 1 : Nat) : Int) := by rw [IntKind.wrap_i64]; omega
      have dt : decide (0 < t) = true := by simp; omega
      by_cases hq : q = port
      · have dq : (q == port) = true := by simpa using hq
        have HPQ := Lib.hid hq
        clear hq
        by_cases hle : t ≤ sec
        · have hmn : min t sec = t := by omega
          have HMN := Lib.hid hmn
          go_wp2_with (first
            | fail
            | ((with_reducible refine at_load 58 ?_); refine wpList_load_mid rfl 58 _ rfl b (off + i * 3) rfl (ev (y, q, t)) _ hr1.out Try.underlying58 rfl size_dent ?_)
            | ((with_reducible refine at_alloc 58 ?_); refine al_zero rfl 58 rfl EZ zero_dent ?_
               intro X wq hq hs hx0)
            | ((with_reducible refine at_store 58 ?_); refine st_at rfl rfl 58 _ _ rfl X 0 _ (ev (y, q, t)).toArray EZ (ev (y, q, t)).toArray 58 rfl rfl rfl hq (by exact (by decide : 0 + 3 ≤ 3)) (by kernel_rfl) rfl rfl ?_
               intro w1 hq1 hm1
               have HX1 := Lib.hid (HX.out.trans (hx0.mutE hm1 (fun n hn h => by have h2 : n = X := h; omega)))
               have hXw : w.heap.size ≤ X := by have := HX.out.size; omega
               have HR1 := Lib.hid (show Ext wr w1 from hx0.mutE hm1 (fun n hn h => by have h2 : n = X := h; omega))
               have hXr : wr.heap.size ≤ X := by omega
               have e1 : w1.cell? ⟨X, 1, none⟩ = some (.int .i64 q) := by rw [cell_row hq1]; rfl
               have e2 : w1.cell? ⟨X, 2, none⟩ = some (.int .i64 t) := by rw [cell_row hq1]; rfl
               have HQ1 := Lib.hid hq1
               clear hx0 hq hq1 hm1 hs)
            | ((with_reducible refine at_store 3 ?_); refine st_at rfl rfl 3 _ _ rfl X 2 _ #[.int .i64 (t)] (ev (y, q, t)).toArray (ev (y, q, t)).toArray 58 rfl rfl rfl HQ1.out (by exact (by decide : 2 + 1 ≤ 3)) (by kernel_rfl) rfl rfl ?_
               intro w2 hq2 hm2
               have HX2 := Lib.hid (HX1.out.mutE hm2 (fun n hn h => by have h2 : n = X := h; omega))
               have HR2 := Lib.hid (HR1.out.mutE hm2 (fun n hn h => by have h2 : n = X := h; omega))
               have f2 : w2.cell? ⟨X, 2, none⟩ = some (.int .i64 (t)) := by rw [cell_row hq2]; rfl
               have HQ2 := Lib.hid hq2
               clear hq2 hm2 e1 e2)
            | ((with_reducible refine at_load 58 ?_); refine wpList_load_row rfl 58 _ rfl X rfl 58 (ev (y, q, t)).toArray (0, 0) _ HQ2.out Try.underlying58 rfl size_dent ?_)
            | ((with_reducible refine at_bs 40 ?_); refine wpList_one rfl _ rfl (y, q, t) rfl ?_
               intro X2 wq hX hs hxq)
            | (at_builtin; refine wpList_snoc rfl _ _ rfl w (HX2.out.trans hxq) v ((L.take i).filterMap (shD port sec)) rfl (owns_ext HO.out (HR2.out.trans hxq)) X2 (y, q, t) rfl hX hln ?_
               intro v' w6 ho6 hx6))
          have HO6 := Lib.hid (show w6.ownsRow w.heap.size 58 3 v' ((L.take (i + 1)).filterMap (shD port sec)).length (evs ((L.take (i + 1)).filterMap (shD port sec))) by
            rw [HTK.out, List.filterMap_append, List.filterMap_cons, show shD port sec (y, q, t) = some (y, q, t) from by unfold shD; rw [if_pos HPQ.out]; dsimp only; rw [HMN.out, if_pos (by omega)], List.filterMap_nil]; exact ho6)
          have HX6 := Lib.hid hx6
          clear ho6 hx6 hX hs hxq c2 f2
          go_wp2_with fail
          go_roundw
          case rel => exact ⟨i + 1, _, _, rfl, rfl, by rw [HTK.out, cntD_app]; rw [show cntD port [(y, q, t)] = 1 from by unfold cntD; rw [if_pos HPQ.out]; rfl]; exact congrArg _ (by omega), by omega, by go_num, HX6.out, HO6.out⟩
          case measure => simp [intOf] <;> omega
        · have hle2 : sec ≤ t := by omega
          have hmn : min t sec = sec := by omega
          have HMN := Lib.hid hmn
          have hlt2 : sec < t := by omega
          clear hle
          by_cases hz : 0 < sec
          · have dz : decide (0 < sec) = true := by simpa using hz
            go_wp2_with (first
              | fail
              | ((with_reducible refine at_load 58 ?_); refine wpList_load_mid rfl 58 _ rfl b (off + i * 3) rfl (ev (y, q, t)) _ hr1.out Try.underlying58 rfl size_dent ?_)
              | ((with_reducible refine at_alloc 58 ?_); refine al_zero rfl 58 rfl EZ zero_dent ?_
                 intro X wq hq hs hx0)
              | ((with_reducible refine at_store 58 ?_); refine st_at rfl rfl 58 _ _ rfl X 0 _ (ev (y, q, t)).toArray EZ (ev (y, q, t)).toArray 58 rfl rfl rfl hq (by exact (by decide : 0 + 3 ≤ 3)) (by kernel_rfl) rfl rfl ?_
                 intro w1 hq1 hm1
                 have HX1 := Lib.hid (HX.out.trans (hx0.mutE hm1 (fun n hn h => by have h2 : n = X := h; omega)))
                 have hXw : w.heap.size ≤ X := by have := HX.out.size; omega
                 have HR1 := Lib.hid (show Ext wr w1 from hx0.mutE hm1 (fun n hn h => by have h2 : n = X := h; omega))
                 have hXr : wr.heap.size ≤ X := by omega
                 have e1 : w1.cell? ⟨X, 1, none⟩ = some (.int .i64 q) := by rw [cell_row hq1]; rfl
                 have e2 : w1.cell? ⟨X, 2, none⟩ = some (.int .i64 t) := by rw [cell_row hq1]; rfl
                 have HQ1 := Lib.hid hq1
                 clear hx0 hq hq1 hm1 hs)
              | ((with_reducible refine at_store 3 ?_); refine st_at rfl rfl 3 _ _ rfl X 2 _ #[.int .i64 (sec)] (ev (y, q, t)).toArray (ev (y, q, sec)).toArray 58 rfl rfl rfl HQ1.out (by exact (by decide : 2 + 1 ≤ 3)) (by kernel_rfl) rfl rfl ?_
                 intro w2 hq2 hm2
                 have HX2 := Lib.hid (HX1.out.mutE hm2 (fun n hn h => by have h2 : n = X := h; omega))
                 have HR2 := Lib.hid (HR1.out.mutE hm2 (fun n hn h => by have h2 : n = X := h; omega))
                 have f2 : w2.cell? ⟨X, 2, none⟩ = some (.int .i64 (sec)) := by rw [cell_row hq2]; rfl
                 have HQ2 := Lib.hid hq2
                 clear hq2 hm2 e1 e2)
              | ((with_reducible refine at_load 58 ?_); refine wpList_load_row rfl 58 _ rfl X rfl 58 (ev (y, q, sec)).toArray (0, 0) _ HQ2.out Try.underlying58 rfl size_dent ?_)
              | ((with_reducible refine at_bs 40 ?_); refine wpList_one rfl _ rfl (y, q, sec) rfl ?_
                 intro X2 wq hX hs hxq)
              | (at_builtin; refine wpList_snoc rfl _ _ rfl w (HX2.out.trans hxq) v ((L.take i).filterMap (shD port sec)) rfl (owns_ext HO.out (HR2.out.trans hxq)) X2 (y, q, sec) rfl hX hln ?_
                 intro v' w6 ho6 hx6))
            have HO6 := Lib.hid (show w6.ownsRow w.heap.size 58 3 v' ((L.take (i + 1)).filterMap (shD port sec)).length (evs ((L.take (i + 1)).filterMap (shD port sec))) by
              rw [HTK.out, List.filterMap_append, List.filterMap_cons, show shD port sec (y, q, t) = some (y, q, sec) from by unfold shD; rw [if_pos HPQ.out]; dsimp only; rw [HMN.out, if_pos (by omega)], List.filterMap_nil]; exact ho6)
            have HX6 := Lib.hid hx6
            clear ho6 hx6 hX hs hxq c2 f2
            go_wp2_with fail
            go_roundw
            case rel => exact ⟨i + 1, _, _, rfl, rfl, by rw [HTK.out, cntD_app]; rw [show cntD port [(y, q, t)] = 1 from by unfold cntD; rw [if_pos HPQ.out]; rfl]; exact congrArg _ (by omega), by omega, by go_num, HX6.out, HO6.out⟩
            case measure => simp [intOf] <;> omega
          · have dz : decide (0 < sec) = false := by simpa using hz
            go_wp2_with (first
              | fail
              | ((with_reducible refine at_load 58 ?_); refine wpList_load_mid rfl 58 _ rfl b (off + i * 3) rfl (ev (y, q, t)) _ hr1.out Try.underlying58 rfl size_dent ?_)
              | ((with_reducible refine at_alloc 58 ?_); refine al_zero rfl 58 rfl EZ zero_dent ?_
                 intro X wq hq hs hx0)
              | ((with_reducible refine at_store 58 ?_); refine st_at rfl rfl 58 _ _ rfl X 0 _ (ev (y, q, t)).toArray EZ (ev (y, q, t)).toArray 58 rfl rfl rfl hq (by exact (by decide : 0 + 3 ≤ 3)) (by kernel_rfl) rfl rfl ?_
                 intro w1 hq1 hm1
                 have HX1 := Lib.hid (HX.out.trans (hx0.mutE hm1 (fun n hn h => by have h2 : n = X := h; omega)))
                 have hXw : w.heap.size ≤ X := by have := HX.out.size; omega
                 have HR1 := Lib.hid (show Ext wr w1 from hx0.mutE hm1 (fun n hn h => by have h2 : n = X := h; omega))
                 have hXr : wr.heap.size ≤ X := by omega
                 have e1 : w1.cell? ⟨X, 1, none⟩ = some (.int .i64 q) := by rw [cell_row hq1]; rfl
                 have e2 : w1.cell? ⟨X, 2, none⟩ = some (.int .i64 t) := by rw [cell_row hq1]; rfl
                 have HQ1 := Lib.hid hq1
                 clear hx0 hq hq1 hm1 hs)
              | ((with_reducible refine at_store 3 ?_); refine st_at rfl rfl 3 _ _ rfl X 2 _ #[.int .i64 (sec)] (ev (y, q, t)).toArray (ev (y, q, sec)).toArray 58 rfl rfl rfl HQ1.out (by exact (by decide : 2 + 1 ≤ 3)) (by kernel_rfl) rfl rfl ?_
                 intro w2 hq2 hm2
                 have HX2 := Lib.hid (HX1.out.mutE hm2 (fun n hn h => by have h2 : n = X := h; omega))
                 have HR2 := Lib.hid (HR1.out.mutE hm2 (fun n hn h => by have h2 : n = X := h; omega))
                 have f2 : w2.cell? ⟨X, 2, none⟩ = some (.int .i64 (sec)) := by rw [cell_row hq2]; rfl
                 have HQ2 := Lib.hid hq2
                 clear hq2 hm2 e1 e2))
            go_roundw
            case rel => exact ⟨i + 1, _, _, rfl, rfl, by rw [HTK.out, cntD_app, show cntD port [(y, q, t)] = 1 from by unfold cntD; rw [if_pos HPQ.out]; rfl]; exact congrArg _ (by omega), by omega, by go_num, HX2.out, by rw [HTK.out, List.filterMap_append, List.filterMap_cons, show shD port sec (y, q, t) = none from by unfold shD; rw [if_pos HPQ.out]; dsimp only; rw [HMN.out, if_neg (by omega)], List.filterMap_nil, List.append_nil]; exact owns_ext HO.out HR2.out⟩
            case measure => simp [intOf] <;> omega
      · have dq : (q == port) = false := by simpa using hq
        have HPQ := Lib.hid hq
        clear hq
        go_wp2_with (first
          | fail
          | ((with_reducible refine at_load 58 ?_); refine wpList_load_mid rfl 58 _ rfl b (off + i * 3) rfl (ev (y, q, t)) _ hr1.out Try.underlying58 rfl size_dent ?_)
          | ((with_reducible refine at_alloc 58 ?_); refine al_zero rfl 58 rfl EZ zero_dent ?_
             intro X wq hq hs hx0)
          | ((with_reducible refine at_store 58 ?_); refine st_at rfl rfl 58 _ _ rfl X 0 _ (ev (y, q, t)).toArray EZ (ev (y, q, t)).toArray 58 rfl rfl rfl hq (by exact (by decide : 0 + 3 ≤ 3)) (by kernel_rfl) rfl rfl ?_
             intro w1 hq1 hm1
             have HX1 := Lib.hid (HX.out.trans (hx0.mutE hm1 (fun n hn h => by have h2 : n = X := h; omega)))
             have hXw : w.heap.size ≤ X := by have := HX.out.size; omega
             have HR1 := Lib.hid (show Ext wr w1 from hx0.mutE hm1 (fun n hn h => by have h2 : n = X := h; omega))
             have hXr : wr.heap.size ≤ X := by omega
             have e1 : w1.cell? ⟨X, 1, none⟩ = some (.int .i64 q) := by rw [cell_row hq1]; rfl
             have e2 : w1.cell? ⟨X, 2, none⟩ = some (.int .i64 t) := by rw [cell_row hq1]; rfl
             have HQ1 := Lib.hid hq1
             clear hx0 hq hq1 hm1 hs)
          | ((with_reducible refine at_load 58 ?_); refine wpList_load_row rfl 58 _ rfl X rfl 58 (ev (y, q, t)).toArray (0, 0) _ HQ1.out Try.underlying58 rfl size_dent ?_)
          | ((with_reducible refine at_bs 40 ?_); refine wpList_one rfl _ rfl (y, q, t) rfl ?_
             intro X2 wq hX hs hxq)
          | (at_builtin; refine wpList_snoc rfl _ _ rfl w (HX1.out.trans hxq) v ((L.take i).filterMap (shD port sec)) rfl (owns_ext HO.out (HR1.out.trans hxq)) X2 (y, q, t) rfl hX hln ?_
             intro v' w6 ho6 hx6))
        have HO6 := Lib.hid (show w6.ownsRow w.heap.size 58 3 v' ((L.take (i + 1)).filterMap (shD port sec)).length (evs ((L.take (i + 1)).filterMap (shD port sec))) by
          rw [HTK.out, List.filterMap_append, List.filterMap_cons, show shD port sec (y, q, t) = some (y, q, t) from by unfold shD; rw [if_neg HPQ.out], List.filterMap_nil]; exact ho6)
        have HX6 := Lib.hid hx6
        clear ho6 hx6 hX hs hxq c2 e1 e2
        go_wp2_with fail
        go_roundw
        case rel => exact ⟨i + 1, _, _, rfl, rfl, by rw [HTK.out, cntD_app]; rw [show cntD port [(y, q, t)] = 0 from by unfold cntD; rw [if_neg HPQ.out]; rfl]; rfl, by omega, by go_num, HX6.out, HO6.out⟩
        case measure => simp [intOf] <;> omega
    · obtain rfl : i = L.length := by omega
      have dlt : decide ((L.length : Int) < (L.length : Int)) = false := by simp
      have ho := HO.out
      rw [List.take_length] at ho ⊢
      obtain ⟨a', cap', rfl⟩ := own_form ho
      have HO2 := Lib.hid ho
      clear ho HO
      obtain ⟨N, hN⟩ : ∃ N, (L.filterMap (shD port sec)).length = N := ⟨_, rfl⟩
      rw [hN]
      go_wp2_with (first
        | fail
        | ((with_reducible refine at_store 40 ?_); refine st_at rfl rfl 40 _ _ rfl wb 2 _ #[.slice a' N cap'] #[.int .i64 most, .int .i64 age, .slice a L.length cap] #[.int .i64 most, .int .i64 age, .slice a' N cap'] 42 rfl rfl rfl (HC.out wr HX.out).2.2.2 (by exact (by decide : 2 + 1 ≤ 3)) (by kernel_rfl) rfl rfl ?_
           intro w7 hrow7 hm7))
      go_ret
      subst hN
      exact ⟨rfl, HD.out.put HF.out HX.out HO2.out (Nat.le_refl _) (by have := fm_len' (shD port sec) L; omega) hrow7 hm7⟩

end Go.Proofs.Ytemmfbedchfekaa
