/- Relay: where frames go; the pieces. No statement is proved here. -/
import Derived.Test.YtemmfbedchfekaaFdPq
import Derived.Test.YtemmfbedchfekaaBrRq
import Derived.Test.YtemmfbedchfekaaBrSq
namespace Go.Proofs.Ytemmfbedchfekaa
open Go.RowKit Go.BigFrame Go.WideShapes Go.ChangeShapes Go.Deep
set_option linter.unusedVariables false
set_option linter.unusedSimpArgs false

/-- A bridge's value that reads so as long as what is none of F stays. -/
def BrK (w : World) (F : Nat → Prop) (c : Array Value) (B : Br) : Prop := ∀ w', w.heap.size ≤ w'.heap.size → (∀ k, k < w.heap.size → ¬ F k → w'.heap[k]? = w.heap[k]?) → BrC w' c B
theorem BrK.br {w : World} {F : Nat → Prop} {c : Array Value} {B : Br} (h : BrK w F c B) : BrC w c B := h w (Nat.le_refl _) (fun _ _ _ => rfl)
theorem BrK.step {w w1 : World} {F F1 : Nat → Prop} {c : Array Value} {B : Br} (h : BrK w F c B) (hs : w.heap.size ≤ w1.heap.size) (hk : ∀ k, k < w.heap.size → ¬ F k → w1.heap[k]? = w.heap[k]?) (hF : ∀ k, k < w.heap.size → F1 k → F k) : BrK w1 F1 c B :=
  fun w' hs' hk' => h w' (by omega) (fun k hk1 hk2 => (hk' k (by omega) (fun hc => hk2 (hF k hk1 hc))).trans (hk k hk1 hk2))
theorem brk_of {w0 w : World} {F : Nat → Prop} {c : Array Value} {B : Br} (h : BrC w0 c B) (hx : Ext w0 w) (hF : ∀ k, F k → w0.heap.size ≤ k) : BrK w F c B := fun w' hs hk => by
  obtain ⟨s1, s2, s3, e, h1, h2, h3⟩ := h
  have key : ∀ k, k < w0.heap.size → w'.heap[k]? = w0.heap[k]? := fun k hk0 => (hk k (Nat.lt_of_lt_of_le hk0 hx.size) (fun hc => by have := hF k hc; omega)).trans (hx.block k hk0)
  have row : ∀ {m : Nat} {v : Value} {n : Nat} {xs : List Value}, IsRow w0 m v n xs → IsRow w' m v n xs := fun {m v n xs} hr => by
    refine ⟨hr.1, ?_⟩
    rcases hr.2 with h | ⟨b, off, cap, e1, g0, g1, g2, hb, hr⟩
    · exact .inl h
    · refine .inr ⟨b, off, cap, e1, g0, g1, g2, Nat.lt_of_lt_of_le hb (Nat.le_trans hx.size hs), fun j u hu => ?_⟩
      have := hr j u hu
      unfold World.cell? at this ⊢
      dsimp only at this ⊢
      rw [key b hb]; exact this
  exact ⟨s1, s2, s3, e, row h1, row h2, row h3⟩
/-- The ports of a bridge's value. -/
theorem BrC.ports {w : World} {c : Array Value} {B : Br} (h : BrC w c B) (ho : B.ok) (hn : 0 < B.np) : ∃ b off cap, c[17]? = some (.slice (some ⟨b, off, none⟩) B.np cap) ∧ B.np ≤ cap ∧ cap ≤ 9223372036854775807 ∧
    ∀ i, i < B.np → ∀ j v, j < 89 → B.ps[i * 89 + j]? = some v → w.cell? ⟨b, off + i * 89 + j, none⟩ = some v := by
  obtain ⟨s1, s2, s3, hz, hhd, c17, c18, c19, r1, -, -⟩ := h.facts ho.hd.1
  obtain ⟨a, cap, rfl, hm, hf⟩ := r1.form
  obtain ⟨b, off, rfl, hb, h1, h2, h3⟩ := hf hn
  refine ⟨b, off, cap, c17, h1, h2, fun i hi j v hj hv => ?_⟩
  have := h3 (i * 89 + j) v hv
  rw [show off + i * 89 + j = off + (i * 89 + j) by omega]
  exact this
def resB (x : Int) : Bool := decide (1652522221568 ≤ x % 281474976710656) && decide (x % 281474976710656 ≤ 1652522221583)
def fwB (B : Br) (i : Nat) : Bool := B.gb i 2 && B.gb i 27
set_option maxRecDepth 100000 in
set_option maxHeartbeats 4000000 in
theorem res_any (x : Int) (w : World) (hx : 0 ≤ x ∧ x < 18446744073709551616) : Calls Try.prog 14 #[.int .u64 x] w fun e w' => e = .returned (.bool (resB x)) ∧ w = w' := by
  obtain ⟨rb, hrb⟩ : ∃ rb, resB x = rb := ⟨_, rfl⟩
  rw [hrb]
  have HR := Lib.hid hrb
  clear hrb
  go_enter Try.func14, Try.ntmps14
  go_wp2_with fail
  refine (addr_any x _ hx.1 hx.2).mono ?_
  rintro e _ ⟨rfl, rfl⟩
  obtain ⟨m, hm⟩ : ∃ m, x % 281474976710656 = m := ⟨_, rfl⟩
  have HR2 := Lib.hid (show (decide (1652522221568 ≤ m) && decide (m ≤ 1652522221583)) = rb from by have := HR.out; unfold resB at this; rw [hm] at this; exact this)
  rw [hm]
  clear hm HR
  by_cases h1 : 1652522221568 ≤ m
  · have d1 : decide (1652522221568 ≤ m) = true := by simpa using h1
    obtain ⟨d, hd⟩ : ∃ d, decide (m ≤ 1652522221583) = d := ⟨_, rfl⟩
    have HD := Lib.hid (And.intro d1 hd)
    clear h1
    go_wp2_with fail
    go_ret
    have h2 := HR2.out
    rw [HD.out.1, Bool.true_and, HD.out.2] at h2
    exact ⟨by rw [← h2]; rfl, rfl⟩
  · have d1 : decide (1652522221568 ≤ m) = false := by simpa using h1
    have HD := Lib.hid d1
    clear h1
    go_wp2_with fail
    go_ret
    have h2 := HR2.out
    rw [HD.out, Bool.false_and] at h2
    exact ⟨by rw [← h2]; rfl, rfl⟩
set_option maxRecDepth 100000 in
set_option maxHeartbeats 4000000 in
theorem fw_any (w : World) (X : Nat) (c : Array Value) (B : Br) (hX : w.heap[X]? = some (.cells c 33 (0, 0))) (hb : BrC w c B) (ho : B.ok) (i : Nat) (hi : i < B.np) : Calls Try.prog 30 #[.pointer (some ⟨X, 0, none⟩), .int .i64 i] w fun e w' => e = .returned (.bool (fwB B i)) ∧ w = w' := by
  obtain ⟨b, off, cap, c17, h1, h2, hr⟩ := hb.ports ho (by omega)
  have d0 : w.cell? ⟨X, 17, none⟩ = some (.slice (some ⟨b, off, none⟩) B.np cap) := by rw [cell_of_row _ _ _ _ _ _ hX]; exact c17
  have d2 : w.cell? ⟨b, off + i * 89 + 2, none⟩ = some (.bool (B.gb i 2)) := hr i hi 2 _ (by omega) (ho.gb hi 2 rfl)
  have d27 : w.cell? ⟨b, off + i * 89 + 27, none⟩ = some (.bool (B.gb i 27)) := hr i hi 27 _ (by omega) (ho.gb hi 27 rfl)
  unfold fwB
  clear hr hb hX
  generalize B.gb i 2 = p at d2 ⊢
  generalize B.gb i 27 = q at d27 ⊢
  generalize B.np = n at *
  clear ho c17
  go_enter Try.func30, Try.ntmps30
  cases p with
  | true =>
    go_wp2_with fail
    go_ret
    exact ⟨rfl, rfl⟩
  | false =>
    go_wp2_with fail
    go_ret
    exact ⟨rfl, rfl⟩
/-- What is known of the one station that a frame goes to. -/
def OneP (L : List En) (x : Int) (p : Int) (kn : Bool) : Prop := if x / 1099511627776 % 2 = 1 then kn = false else (∃ e0 ∈ L, e0.1 = x % 281474976710656 ∧ kn = true ∧ p = e0.2.1) ∨ (x % 281474976710656 ∉ L.map Prod.fst ∧ kn = false)
set_option maxRecDepth 100000 in
set_option maxHeartbeats 4000000 in
theorem one_any (w : World) (F : Nat → Prop) (f : Nat) (L : List En) (most age : Int) (h : Fb w F f L most age) (x : Int) (hx0 : 0 ≤ x ∧ x < 18446744073709551616) : Calls Try.prog 31 #[.pointer (some ⟨f, 0, none⟩), .int .u64 x] w fun e w' => (∃ p kn, e = .returned (.tuple #[.int .i64 p, .bool kn]) ∧ OneP L x p kn) ∧ Ext w w' := by
  have HH := Lib.hid h
  clear h
  go_enter Try.func31, Try.ntmps31
  go_wp2_with fail
  refine (group_any x _ hx0.1 hx0.2).mono ?_
  rintro e _ ⟨rfl, rfl⟩
  by_cases hg : x / 1099511627776 % 2 = 1
  · rw [show (x / 1099511627776 % 2 == 1) = true by simpa using hg]
    have HG := Lib.hid hg
    clear hg
    go_wp2_with fail
    go_ret2
    exact ⟨⟨_, _, rfl, by unfold OneP; rw [if_pos HG.out]⟩, Ext.refl _⟩
  · rw [show (x / 1099511627776 % 2 == 1) = false by simpa using hg]
    have HG := Lib.hid hg
    clear hg
    go_wp2_with fail
    refine (find_any w F f L most age HH.out x hx0).mono ?_
    rintro e w1 ⟨he, hx⟩
    obtain ⟨p, kn, rfl, hp⟩ : ∃ p kn, e = .returned (.tuple #[.int .i64 p, .bool kn]) ∧ OneP L x p kn := by
      have key : ∀ p kn, ((∃ e0 ∈ L, e0.1 = x % 281474976710656 ∧ kn = true ∧ p = e0.2.1) ∨ (x % 281474976710656 ∉ L.map Prod.fst ∧ kn = false)) → OneP L x p kn := fun p kn h => by unfold OneP; rw [if_neg HG.out]; exact h
      rcases he with ⟨e0, he, hk, rfl⟩ | ⟨hn, rfl⟩
      · exact ⟨_, _, rfl, key _ _ (.inl ⟨e0, he, hk, rfl, rfl⟩)⟩
      · exact ⟨_, _, rfl, key _ _ (.inr ⟨hn, rfl⟩)⟩
    have HX := Lib.hid hx
    have HP := Lib.hid hp
    clear he hx hp
    go_wp2_with fail
    go_ret2
    exact ⟨⟨_, _, rfl, HP.out⟩, HX.out⟩
set_option maxRecDepth 100000 in
set_option maxHeartbeats 4000000 in
theorem others_fn (w : World) (X : Nat) (i : Int) : Calls Try.prog 32 #[.pointer (some ⟨X, 0, none⟩), .int .i64 i] w fun e w' => ∃ p q, e = .returned (.func (.func 44) #[] #[.pointer (some ⟨p, 0, none⟩), .pointer (some ⟨q, 0, none⟩)]) ∧ Ext w w' ∧ w.heap.size ≤ p ∧ w.heap.size ≤ q ∧
    w'.heap[p]? = some (.cells #[.pointer (some ⟨X, 0, none⟩)] 47 (0, 0)) ∧ w'.heap[q]? = some (.cells #[.int .i64 i] 3 (0, 0)) := by
  go_enter Try.func32, Try.ntmps32
  go_wp2_with fail
  go_ret
  exact ⟨_, _, rfl, ((Ext.refl w).alloc _).alloc _, by omega, by simp, (heap_alloc_old _ _ (by simp)).trans (heap_alloc_new _ _), heap_alloc2_new _ _ _⟩
/-- All ports that a frame may go to: no longer than they are. -/
def goes (B : Br) (inn : Int) (i : Nat) : Bool := decide ((i : Int) ≠ inn) && fwB B i
def othersL (B : Br) (inn : Int) (n : Nat) : List Int := ((List.range n).filter (goes B inn)).map Int.ofNat
theorem othersL_succ (B : Br) (inn : Int) (n : Nat) : othersL B inn (n + 1) = othersL B inn n ++ (if goes B inn n = true then [(n : Int)] else []) := by
  unfold othersL
  rw [List.range_succ, List.filter_append, List.map_append]
  congr 1
  by_cases h : goes B inn n = true
  · rw [if_pos h, List.filter_cons, if_pos h]; rfl
  · rw [if_neg h, List.filter_cons, if_neg h]; rfl
theorem othersL_len (B : Br) (inn : Int) (n : Nat) : (othersL B inn n).length ≤ n := by
  unfold othersL
  rw [List.length_map]
  have := List.length_filter_le (goes B inn) (List.range n)
  rwa [List.length_range] at this
/-- What a round of the caller keeps: all that is older than nS, but for G. -/
def KP (nS G : Nat) (A C : World) : Prop := A.heap.size ≤ C.heap.size ∧ ∀ k, k < nS → k ≠ G → C.heap[k]? = A.heap[k]?
theorem KP.trans {nS G : Nat} {A C D : World} (h : KP nS G A C) (k : KP nS G C D) : KP nS G A D := ⟨Nat.le_trans h.1 k.1, fun i h1 h2 => (k.2 i h1 h2).trans (h.2 i h1 h2)⟩
theorem KP.refl (nS G : Nat) (A : World) : KP nS G A A := ⟨Nat.le_refl _, fun _ _ _ => rfl⟩
set_option maxRecDepth 100000 in
set_option maxHeartbeats 4000000 in
theorem others_seq (n : Nat) (hn : 2 ≤ n) (w : World) (G p q X : Nat) (c : Array Value) (B : Br) (inn : Int) (hin : -9223372036854775808 ≤ inn ∧ inn < 9223372036854775808)
    (hp : w.heap[p]? = some (.cells #[.pointer (some ⟨X, 0, none⟩)] 47 (0, 0))) (hq : w.heap[q]? = some (.cells #[.int .i64 inn] 3 (0, 0))) (hX : w.heap[X]? = some (.cells c 33 (0, 0)))
    (hne : p ≠ G ∧ q ≠ G ∧ X ≠ G) (hb : BrK w (fun k => k = G) c B) (ho : B.ok) (hnp : 0 < B.np ∧ B.np ≤ 1000) :
    SeqStopsK Fence.wide n Try.prog 44 #[.pointer (some ⟨p, 0, none⟩), .pointer (some ⟨q, 0, none⟩)] (fun x => #[Value.int .i64 x]) (KP w.heap.size G) (fun xs => xs = othersL B inn B.np) (fun _ => True) B.np w := by
  intro l J Jx W hW hJ hJx hY h0
  have facts : ∀ w', KP w.heap.size G W w' → w'.cell? ⟨p, 0, none⟩ = some (.pointer (some ⟨X, 0, none⟩)) ∧ w'.cell? ⟨q, 0, none⟩ = some (.int .i64 inn) ∧ w'.heap[X]? = some (.cells c 33 (0, 0)) ∧ BrC w' c B := fun w' hk => by
    have k1 : ∀ k, k < w.heap.size → k ≠ G → w'.heap[k]? = w.heap[k]? := fun k h1 h2 => (hk.2 k h1 h2).trans (hW.block k h1)
    refine ⟨?_, ?_, (k1 X (heap_lt hX) hne.2.2).trans hX, hb w' (Nat.le_trans hW.size hk.1) (fun k h1 h2 => k1 k h1 h2)⟩
    · rw [cell_row ((k1 p (heap_lt hp) hne.1).trans hp)]; rfl
    · rw [cell_row ((k1 q (heap_lt hq) hne.2.1).trans hq)]; rfl
  obtain ⟨c0, -, hX0, hb0⟩ := facts W (KP.refl _ _ _)
  obtain ⟨b, off, cap, c17, hc1, hc2, -⟩ := hb0.ports ho hnp.1
  have d17 : W.cell? ⟨X, 17, none⟩ = some (.slice (some ⟨b, off, none⟩) B.np cap) := by rw [cell_of_row _ _ _ _ _ _ hX0]; exact c17
  have FA := Lib.hid facts
  have HY := Lib.hid hY
  have HJ0 := Lib.hid h0
  clear facts hY h0 hb0 hX0 hJ hJx hp hq hX hb
  obtain ⟨N, hN⟩ : ∃ N, B.np = N := ⟨_, rfl⟩
  rw [hN] at d17 HY hc1 hnp ⊢
  have HN := Lib.hid hN
  clear hN c17
  refine callsIn_of_wp (F := Fence.wide) Try.func44 rfl trivial ?_
  simp only [Try.ntmps44, List.size_toArray, List.length_cons, List.length_nil, Nat.reduceAdd, Nat.reduceSub, Array.replicate_succ, Array.replicate_zero, List.push_toArray, List.append_toArray, List.nil_append, List.cons_append]
  gi_wp2
  gi_loopw [10] (fun s wr => ∃ i : Nat, i ≤ N ∧ s = .int .i64 i ∧ J (othersL B inn i) wr ∧ KP w.heap.size G W wr) (fun s _ => N - (intOf s).toNat)
  case atStart => exact ⟨0, by omega, rfl, HJ0.out, KP.refl _ _ _⟩
  case round =>
    obtain ⟨i, hi, rfl, hj, hk⟩ := hrel
    rename World => wr
    have HJ := Lib.hid hj
    have HK := Lib.hid hk
    clear hj hk
    by_cases hlt : i < N
    · have dlt : decide ((i : Int) < (N : Int)) = true := by simp; omega
      obtain ⟨c0, c1, hXr, hbr⟩ := FA.out wr HK.out
      have HF := Lib.hid (fw_any wr X c B hXr hbr ho i (by rw [HN.out]; exact hlt))
      have hup : IntKind.i64.wrap ((i : Int) + 1) = ((i + 1 : Nat) : Int) := by rw [IntKind.wrap_i64]; omega
      clear hXr hbr d17
      by_cases he : (i : Int) = inn
      · have de : ((i : Int) != inn) = false := by simpa using he
        have HG := Lib.hid (show goes B inn i = false from by unfold goes; rw [he]; simp)
        clear he
        gi_wp2
        refine ⟨trivial, ?_⟩
        gi_wp2
        refine ⟨fun f hf => (by cases hf), ?_⟩
        gi_wp2
        go_roundw
        case rel => exact ⟨i + 1, by omega, by go_num, by rw [othersL_succ, HG.out, if_neg (by decide), List.append_nil]; exact HJ.out, HK.out⟩
        case measure => simp [intOf] <;> omega
      · have de : ((i : Int) != inn) = true := by simpa using he
        have HNE := Lib.hid he
        clear he
        have HFG := Lib.hid (show goes B inn i = fwB B i from by unfold goes; rw [decide_eq_true HNE.out]; rfl)
        obtain ⟨fb, hfb⟩ : ∃ fb, fwB B i = fb := ⟨_, rfl⟩
        rw [hfb] at HF HFG
        clear hfb
        gi_wp2
        refine ⟨trivial, fun _ => by omega, (callsIn_wide.2 HF.out).mono ?_⟩
        rintro e _ ⟨rfl, rfl⟩
        cases fb with
        | false =>
          gi_wp2
          refine ⟨fun f hf => (by cases hf), ?_⟩
          gi_wp2
          go_roundw
          case rel => exact ⟨i + 1, by omega, by go_num, by rw [othersL_succ, HFG.out, if_neg (by decide), List.append_nil]; exact HJ.out, HK.out⟩
          case measure => simp [intOf] <;> omega
        | true =>
          obtain ⟨fn, tmps, assign, body, hy, hR⟩ := HY.out (othersL B inn i) i wr HJ.out (by have := othersL_len B inn i; omega)
          gi_wp2
          refine ⟨fun _ => by omega, hR.mono ?_⟩
          rintro e W3 (⟨rfl, hJ3, hk3⟩ | ⟨rfl, hJ3⟩)
          · have HJ3 := Lib.hid hJ3
            have HK3 := Lib.hid (HK.out.trans hk3)
            clear hJ3 hk3 hR hy
            gi_wp2
            go_roundw
            case rel => exact ⟨i + 1, by omega, by go_num, by rw [othersL_succ, HFG.out, if_pos rfl]; exact HJ3.out, HK3.out⟩
            case measure => simp [intOf] <;> omega
          · have HJ3 := Lib.hid hJ3
            clear hJ3 hR hy
            gi_wp2
            refine bodyPost_ret (results_none rfl _ _ _) rfl ?_
            exact ⟨⟨_, rfl⟩, .inr ⟨_, trivial, HJ3.out⟩⟩
    · obtain rfl : i = N := by omega
      have dlt : decide ((i : Int) < (i : Int)) = false := by simp
      gi_wp2
      go_end0
      exact ⟨⟨_, rfl⟩, .inl ⟨_, rfl, HJ.out⟩⟩

end Go.Proofs.Ytemmfbedchfekaa
