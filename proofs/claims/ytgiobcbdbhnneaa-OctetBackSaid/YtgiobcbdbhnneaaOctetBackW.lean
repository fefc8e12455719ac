/- The walk of OctetBack. No statement is proved here. -/
import Derived.Test.YtgiobcbdbhnneaaOctC
import Derived.Test.YtgiobcbdbhnneaaRegO
import Derived.Test.YtgiobcbdbhnneaaHeld
import Derived.Maps.AppendAt
namespace Go.Proofs.Ytgiobcbdbhnneaa
open Go.RowKit Go.BigFrame Go.WideShapes Go.ChangeShapes Go.Deep
set_option linter.unusedVariables false
set_option linter.unusedSimpArgs false

theorem oper_append_own_at {P : Program} {o : Oper} {a : Act} {w : World} {K : Act → World → Prop} {Q : Exit → Act → World → Prop} (s x : Operand) (t : TypeId)
    (ho : o.op = .call { callee := .builtin .append, args := #[s, x], argTypes := #[t, t] })
    (base : Nat) (e : TypeId) (i : TypeInfo) (z : Value) (size bytes : Nat) (ht : P.underlying t = some (.slice e)) (hi : P.info? e = some i) (hz : i.zero = some z)
    (hsize : i.size = size) (hby : i.bytes = bytes) (hzs : z.cells.size = size) (hsz : 0 < size)
    (v : Value) (n : Nat) (xs : List Value) (hs : a.eval s = v) (hown : w.ownsRow base e size v n xs)
    (ad : Addr) (m c : Nat) (news : List Value) (hx : a.eval x = .slice (some ad) m c) (hl : news.length = m * size) (hnews : ∀ j u, news[j]? = some u → w.cell? (ad.add j) = some u) (h1 : ∀ u ∈ news, u.oneCell' = true)
    (h63 : n + m ≤ maxLen) (hbytes : (n + m) * bytes ≤ 140737488355328) (hbase : base ≤ w.heap.size)
    (h : ∀ v' w', w'.ownsRow base e size v' (n + m) (xs ++ news) → w.grownBy w' v.ownBlock → K (a.put o.dst v') w') : Oper.wp P o a w K Q := by
  obtain ⟨v', w', hr, h2, h3, h4, h5⟩ := run_append_own_at (P := P) w base t o.type e i z size bytes ht hi hz hsize hby hzs hsz v n xs hown ad m c news hl hnews h1 h63 hbytes hbase
  unfold Oper.wp execOp
  simp only [ho, resolve, invoke, builtin, Sem.run_bind, Sem.run_pure, Result.andThen_ok, List.map_toArray, List.map_cons, List.map_nil, hs, hx, hr]
  exact h v' w' h2 h3
theorem owns_ext {w w' : World} {base m n : Nat} {e : TypeId} {v : Value} {xs : List Value} (h : w.ownsRow base e m v n xs) (hx : Ext w w') : w'.ownsRow base e m v n xs := by
  refine ⟨h.1, ?_⟩
  rcases h.2 with hn | ⟨g, cap, cur, rfl, hb, hg, rest⟩
  · exact .inl hn
  · exact .inr ⟨g, cap, cur, rfl, hb, (hx.block g (Array.getElem?_eq_some_iff.1 hg).1).trans hg, rest⟩
theorem news_alloc (wd : World) (l : List Value) (e : TypeId) : ∀ j u, l[j]? = some u → (wd.alloc (.cells l.toArray e)).cell? ((⟨wd.heap.size, 0, none⟩ : Addr).add j) = some u := by
  intro j u hu
  have hb : (wd.alloc (.cells l.toArray e)).heap[wd.heap.size]? = some (.cells l.toArray e) := heap_alloc_new _ _
  have he : (⟨wd.heap.size, 0, none⟩ : Addr).add j = ⟨wd.heap.size, j, none⟩ := by
    by_cases h0 : j = 0
    · subst h0; rfl
    · simp [Addr.add, h0]
  rw [he]
  unfold World.cell?
  rw [hb]
  simp [hu]
/-- All numbers' bytes, one behind the other. -/
def catB (ls ms : List Int) : Nat → List Int
  | 0 => []
  | n + 1 => catB ls ms n ++ bts (ls.getD n 0).toNat (1 + ms.getD n 0 % 8).toNat
theorem catB_rg (ls ms : List Int) : ∀ n, ∀ x ∈ catB ls ms n, 0 ≤ x ∧ x < 256
  | 0, x, h => by simp [catB] at h
  | n + 1, x, h => by
    rcases List.mem_append.1 h with h | h
    · exact catB_rg ls ms n x h
    · exact bts_rg _ _ x h
theorem catB_len (ls ms : List Int) : ∀ n, (catB ls ms n).length ≤ n * 8
  | 0 => Nat.le_refl _
  | n + 1 => by
    have ih := catB_len ls ms n
    show (catB ls ms n ++ _).length ≤ _
    rw [List.length_append, bts_len]
    have : (1 + ms.getD n 0 % 8).toNat ≤ 8 := by omega
    omega
theorem catB_pre (ls ms : List Int) (i : Nat) : ∀ d, ∃ t, catB ls ms (i + d) = catB ls ms i ++ t
  | 0 => ⟨[], by simp⟩
  | d + 1 => by
    obtain ⟨t, ht⟩ := catB_pre ls ms i d
    refine ⟨t ++ bts (ls.getD (i + d) 0).toNat (1 + ms.getD (i + d) 0 % 8).toNat, ?_⟩
    show catB ls ms (i + d) ++ bts (ls.getD (i + d) 0).toNat (1 + ms.getD (i + d) 0 % 8).toNat = _
    rw [ht, List.append_assoc]
def restB (ls ms : List Int) (n i : Nat) : List Int := (catB ls ms n).drop (catB ls ms i).length
theorem restB_step {ls ms : List Int} {n i : Nat} (h : i < n) : restB ls ms n i = bts (ls.getD i 0).toNat (1 + ms.getD i 0 % 8).toNat ++ restB ls ms n (i + 1) := by
  obtain ⟨t, ht⟩ := catB_pre ls ms (i + 1) (n - (i + 1))
  rw [show i + 1 + (n - (i + 1)) = n by omega] at ht
  have e1 : restB ls ms n (i + 1) = t := by unfold restB; rw [ht]; exact List.drop_left' rfl
  rw [e1]
  unfold restB
  rw [ht, show catB ls ms (i + 1) = catB ls ms i ++ bts (ls.getD i 0).toNat (1 + ms.getD i 0 % 8).toNat from rfl, List.append_assoc]
  exact List.drop_left' rfl
theorem restB_end (ls ms : List Int) (n : Nat) : restB ls ms n n = [] := by
  unfold restB
  exact List.drop_of_length_le (Nat.le_refl _)
theorem num_bts : ∀ (k n : Nat), num (bts n k) = ((n % 256 ^ k : Nat) : Int)
  | 0, n => by simp [bts, num, Nat.mod_one]
  | k + 1, n => by
    show num (bts (n / 256) k ++ [((n % 256 : Nat) : Int)]) = _
    rw [num_snoc, num_bts k (n / 256), show (256 : Nat) ^ (k + 1) = 256 * 256 ^ k from by rw [Nat.pow_succ, Nat.mul_comm], Nat.mod_mul]
    omega
/-- What is taken is what was put. -/
theorem took_back {ls ms : List Int} {n i kn : Nat} (h : i < n) (hk : (kn : Int) = 1 + ms.getD i 0 % 8) : tkV (restB ls ms n i) false kn = (((ls.getD i 0).toNat % 256 ^ kn : Nat) : Int) ∧ tkX (restB ls ms n i) false kn = restB ls ms n (i + 1) ∧ tkS (restB ls ms n i) false kn = false := by
  have hkn : (1 + ms.getD i 0 % 8).toNat = kn := by omega
  have hf : fitsK kn = true := (fits_iff kn).2 (by omega)
  have hs := restB_step (ls := ls) (ms := ms) h
  rw [hkn] at hs
  have hl : kn ≤ (restB ls ms n i).length := by rw [hs, List.length_append, bts_len]; omega
  have ht : (restB ls ms n i).take kn = bts (ls.getD i 0).toNat kn := by rw [hs, List.take_left' (bts_len _ _)]
  have hd : (restB ls ms n i).drop kn = restB ls ms n (i + 1) := by rw [hs, List.drop_left' (bts_len _ _)]
  refine ⟨?_, ?_, ?_⟩
  · unfold tkV
    rw [if_pos ⟨hf, rfl, by omega⟩, Int.toNat_natCast, ht, num_bts]
  · unfold tkX
    rw [if_pos ⟨hf, rfl⟩, if_pos (by omega), Int.toNat_natCast, hd]
  · unfold tkS
    rw [if_pos ⟨hf, rfl⟩]
    exact decide_eq_false (by omega)
theorem sh_1 (a : Nat) (ha : a < 18446744073709551616) : IntKind.u64.wrap ((a : Int) * 72057594037927936) / 72057594037927936 = ((a % 256 : Nat) : Int) := by rw [IntKind.wrap_u64]; omega
theorem sh_2 (a : Nat) (ha : a < 18446744073709551616) : IntKind.u64.wrap ((a : Int) * 281474976710656) / 281474976710656 = ((a % 65536 : Nat) : Int) := by rw [IntKind.wrap_u64]; omega
theorem sh_3 (a : Nat) (ha : a < 18446744073709551616) : IntKind.u64.wrap ((a : Int) * 1099511627776) / 1099511627776 = ((a % 16777216 : Nat) : Int) := by rw [IntKind.wrap_u64]; omega
theorem sh_4 (a : Nat) (ha : a < 18446744073709551616) : IntKind.u64.wrap ((a : Int) * 4294967296) / 4294967296 = ((a % 4294967296 : Nat) : Int) := by rw [IntKind.wrap_u64]; omega
theorem sh_5 (a : Nat) (ha : a < 18446744073709551616) : IntKind.u64.wrap ((a : Int) * 16777216) / 16777216 = ((a % 1099511627776 : Nat) : Int) := by rw [IntKind.wrap_u64]; omega
theorem sh_6 (a : Nat) (ha : a < 18446744073709551616) : IntKind.u64.wrap ((a : Int) * 65536) / 65536 = ((a % 281474976710656 : Nat) : Int) := by rw [IntKind.wrap_u64]; omega
theorem sh_7 (a : Nat) (ha : a < 18446744073709551616) : IntKind.u64.wrap ((a : Int) * 256) / 256 = ((a % 72057594037927936 : Nat) : Int) := by rw [IntKind.wrap_u64]; omega
theorem sh_8 (a : Nat) (ha : a < 18446744073709551616) : IntKind.u64.wrap ((a : Int) * 1) / 1 = ((a % 18446744073709551616 : Nat) : Int) := by rw [IntKind.wrap_u64]; omega
theorem rd_cells0 {w : World} {N R : Nat} {xs : List Int} {sh : Bool} (h : Rd w N R xs sh) : ∃ a cap, w.cell? ⟨R, 0, none⟩ = some (.slice a xs.length cap) ∧ w.cell? ⟨R, 1, none⟩ = some (.bool sh) ∧ xs.length ≤ 9223372036854775807 := by
  obtain ⟨_, c1, hf, hx, v, c0, hv⟩ := h
  rcases hv with ⟨rfl, a, cap, rfl⟩ | ⟨b, off, cap, rfl, _, hlc, hm, _⟩
  · exact ⟨a, cap, c0, c1, by simp⟩
  · unfold maxLen at hm
    exact ⟨_, cap, c0, c1, by omega⟩
theorem ints_form {w : World} {k : IntKind} {v : Value} {xs : List Int} (h : IsInts w k v xs) : ∃ a cap, v = .slice a xs.length cap ∧ xs.length ≤ 9223372036854775807 ∧ (0 < xs.length → ∃ b off, a = some ⟨b, off, none⟩ ∧ b < w.heap.size ∧ xs.length ≤ cap ∧ cap ≤ 9223372036854775807 ∧ ∀ i, i < xs.length → w.cell? ⟨b, off + i, none⟩ = some (.int k (xs.getD i 0))) := by
  rcases h with ⟨rfl, rfl | ⟨a, cap, rfl⟩⟩ | ⟨b, off, cap, rfl, h0, h1, h2, h3, h4⟩
  · exact ⟨none, 0, rfl, by simp, fun h => by simp at h⟩
  · exact ⟨some a, cap, rfl, by simp, fun h => by simp at h⟩
  · unfold maxLen at h2
    exact ⟨_, cap, rfl, by omega, fun _ => ⟨b, off, rfl, h3, h1, by omega, h4⟩⟩
set_option maxRecDepth 100000 in
set_option maxHeartbeats 8000000 in
theorem back_A {w : World} (v : Value) (ls : List Int) (hv : IsInts w .u64 v ls ∧ ∀ z ∈ ls, (Lit.int .u64 z).wf = true) (u : Value) (ms : List Int) (hu : IsInts w .u8 u ms ∧ ∀ z ∈ ms, (Lit.int .u8 z).wf = true) (hl : ls.length ≤ 60) (hc : ls.length ≤ ms.length) :
    Calls Try.prog 5 #[v, u] w fun e w' => e = .returned (.bool true) ∧ Ext w w' := by
  obtain ⟨a, cap, rfl, hn, ha⟩ := ints_form hv.1
  obtain ⟨a', cap', rfl, hn', ha'⟩ := ints_form hu.1
  have HA := Lib.hid ha
  have HA' := Lib.hid ha'
  have HV := Lib.hid hv.2
  have HU := Lib.hid hu.2
  have hd : decide (60 < (ls.length : Int)) = false := by simp; omega
  obtain ⟨i1, hi1, hz1, hs1, hb1⟩ := info_parts info_u8
  have I1 := Lib.hid (And.intro hi1 (And.intro hz1 (And.intro hs1 hb1)))
  clear ha ha' hv hu hi1 hz1 hs1 hb1
  go_enter Try.func5, Try.ntmps5
  go_wp2_with fail
  refine (awake1 _).mono ?_
  rintro e w1 ⟨rfl, g1⟩
  go_wp2_with fail
  go_loopw [7, 6] (fun i x wr => ∃ (j : Nat) (b : Value) (wo : World), wo = wr ∧ j ≤ ls.length ∧ i = .int .i64 j ∧ b = x ∧ wo.ownsRow w.heap.size 5 1 b (catB ls ms j).length ((catB ls ms j).map (Value.int .u8)) ∧ Ext w wo) (fun i _ _ => ls.length - (intOf i).toNat)
  case atStart => exact ⟨0, _, _, rfl, by omega, rfl, rfl, ⟨rfl, .inl ⟨rfl, rfl⟩⟩, g1⟩
  case round =>
    clear g1
    obtain ⟨j, b, wo, rfl, hj, rfl, rfl, hO, hE⟩ := hrel
    have HO := Lib.hid hO
    have HE := Lib.hid hE
    clear hO hE
    by_cases hlt : j < ls.length
    · obtain ⟨p, off, rfl, hp, hp1, hp2, hpc⟩ := HA.out (by omega)
      obtain ⟨p2, off2, rfl, hq, hq1, hq2, hqc⟩ := HA'.out (by omega)
      have h1 : j < ls.length := by omega
      have h2 : j < ms.length := by omega
      have hwl := wf_u64 (HV.out (ls.getD j 0) (by simp [List.getD, h1]))
      have hwm := wf_u8 (HU.out (ms.getD j 0) (by simp [List.getD, h2]))
      obtain ⟨ln, hln⟩ : ∃ m : Nat, ls.getD j 0 = m := ⟨(ls.getD j 0).toNat, by omega⟩
      obtain ⟨mj, hmj⟩ : ∃ m : Int, ms.getD j 0 = m := ⟨_, rfl⟩
      obtain ⟨kn, hkn⟩ : ∃ m : Nat, (m : Int) = 1 + mj % 8 := ⟨(1 + mj % 8).toNat, by omega⟩
      have c1 := hpc j h1
      have c2 := hqc j h2
      rw [hln] at c1 hwl
      rw [hmj] at c2 hwm
      have hlen := catB_len ls ms j
      have HS := Lib.hid (show catB ls ms (j + 1) = catB ls ms j ++ bts ln kn by
        show catB ls ms j ++ _ = _
        rw [hln, hmj, ← hkn, Int.toNat_natCast, Int.toNat_natCast])
      have hj8 : j < 60 := by omega
      have hk8 : 1 ≤ kn ∧ kn ≤ 8 := by omega
      have hlw : ln < 18446744073709551616 := by omega
      have dl : decide ((j : Int) < (ls.length : Int)) = true := by simp; omega
      have dm : decide ((j : Int) < (ms.length : Int)) = true := by simp; omega
      have HKN := Lib.hid hkn
      clear hpc hqc hln hmj hkn
      go_upto_region 8 with fail
      have hkn := HKN.out
      refine beginL (S := fun W' => Ext w W') (by kernel_rfl) ?_
      intro wd hqx
      have hq0 : Ext w wd := HE.out.trans hqx
      refine takeL (i := 0) (v := b) rfl (by kernel_rfl) (by kernel_rfl) (by kernel_rfl) (fun _ _ _ h => h) (Or.inl ⟨rfl, fun _ _ => rfl⟩) hq0 ?_
      simp only [Act.put, List.setIfInBounds_toArray, List.set_cons_zero, List.set_cons_succ]
      refine takeL (i := 1) (v := (.slice (some ⟨p, off, none⟩) ls.length cap)) rfl (by kernel_rfl) (by kernel_rfl) (by kernel_rfl) (fun _ _ _ h => h) (Or.inl ⟨rfl, fun _ _ => rfl⟩) hq0 ?_
      simp only [Act.put, List.setIfInBounds_toArray, List.set_cons_zero, List.set_cons_succ]
      refine takeL (i := 2) (v := (.int .i64 (j : Int))) rfl (by kernel_rfl) (by kernel_rfl) (by kernel_rfl) (fun _ _ _ h => h) (Or.inl ⟨rfl, fun _ _ => rfl⟩) hq0 ?_
      simp only [Act.put, List.setIfInBounds_toArray, List.set_cons_zero, List.set_cons_succ]
      refine takeL (i := 3) (v := (.pointer (some ⟨p, off + j, none⟩))) rfl (by kernel_rfl) (by kernel_rfl) (by kernel_rfl) (fun _ _ _ h => h) (Or.inl ⟨rfl, fun W' _ => by go_simp⟩) hq0 ?_
      simp only [Act.put, List.setIfInBounds_toArray, List.set_cons_zero, List.set_cons_succ]
      refine takeL (i := 4) (v := _) rfl (by kernel_rfl) (by kernel_rfl) (by kernel_rfl) (fun _ _ _ h => h) (yieldsIf_cell rfl 22 _ rfl ⟨p, off + j, none⟩ rfl (.int .u64 (ln : Int)) _ (fun W' hW' => (hW'.cell (p := ⟨p, off + j, none⟩) hp).trans c1) Try.underlying22 rfl) hq0 ?_
      simp only [Act.put, List.setIfInBounds_toArray, List.set_cons_zero, List.set_cons_succ]
      refine takeL (i := 5) (v := (.slice (some ⟨p2, off2, none⟩) ms.length cap')) rfl (by kernel_rfl) (by kernel_rfl) (by kernel_rfl) (fun _ _ _ h => h) (Or.inl ⟨rfl, fun _ _ => rfl⟩) hq0 ?_
      simp only [Act.put, List.setIfInBounds_toArray, List.set_cons_zero, List.set_cons_succ]
      refine takeL (i := 6) (v := (.int .i64 (j : Int))) rfl (by kernel_rfl) (by kernel_rfl) (by kernel_rfl) (fun _ _ _ h => h) (Or.inl ⟨rfl, fun _ _ => rfl⟩) hq0 ?_
      simp only [Act.put, List.setIfInBounds_toArray, List.set_cons_zero, List.set_cons_succ]
      refine takeL (i := 7) (v := (.pointer (some ⟨p2, off2 + j, none⟩))) rfl (by kernel_rfl) (by kernel_rfl) (by kernel_rfl) (fun _ _ _ h => h) (Or.inl ⟨rfl, fun W' _ => by go_simp⟩) hq0 ?_
      simp only [Act.put, List.setIfInBounds_toArray, List.set_cons_zero, List.set_cons_succ]
      refine takeL (i := 8) (v := _) rfl (by kernel_rfl) (by kernel_rfl) (by kernel_rfl) (fun _ _ _ h => h) (yieldsIf_cell rfl 5 _ rfl ⟨p2, off2 + j, none⟩ rfl (.int .u8 mj) _ (fun W' hW' => (hW'.cell (p := ⟨p2, off2 + j, none⟩) hq).trans c2) Try.underlying5 rfl) hq0 ?_
      simp only [Act.put, List.setIfInBounds_toArray, List.set_cons_zero, List.set_cons_succ]
      refine takeL (i := 9) (v := (.int .u8 (mj % 8))) rfl (by kernel_rfl) (by kernel_rfl) (by kernel_rfl) (fun _ _ _ h => h) (Or.inl ⟨rfl, fun W' _ => by go_simp <;> exact Int.tmod_eq_emod_of_nonneg (by omega)⟩) hq0 ?_
      simp only [Act.put, List.setIfInBounds_toArray, List.set_cons_zero, List.set_cons_succ]
      refine takeL (i := 10) (v := (.int .i64 (mj % 8))) rfl (by kernel_rfl) (by kernel_rfl) (by kernel_rfl) (fun _ _ _ h => h) (Or.inl ⟨rfl, fun W' _ => by go_simp <;> (rw [IntKind.wrap_i64]; omega)⟩) hq0 ?_
      simp only [Act.put, List.setIfInBounds_toArray, List.set_cons_zero, List.set_cons_succ]
      refine takeL (i := 11) (v := (.int .i64 (kn : Int))) rfl (by kernel_rfl) (by kernel_rfl) (by kernel_rfl) (fun _ _ _ h => h) (Or.inl ⟨rfl, fun W' _ => by go_simp <;> (rw [IntKind.wrap_i64]; omega)⟩) hq0 ?_
      simp only [Act.put, List.setIfInBounds_toArray, List.set_cons_zero, List.set_cons_succ]
      clear hkn
      refine runL (i := 12) rfl rfl (by kernel_rfl) (fun K hK => ?_)
      go_simp
      refine (put_any ln kn wd hlw hk8.1 hk8.2).mono ?_
      rintro e wa ⟨rfl, rfl⟩
      have hq1 : Ext w (wd.alloc (.cells ((bts ln kn).map (Value.int .u8)).toArray 5)) := hq0.alloc _
      have hxa := hqx.alloc (.cells ((bts ln kn).map (Value.int .u8)).toArray 5)
      refine hK.out _ _ hq1 (fun _ => ?_)
      try simp only [Act.put, List.setIfInBounds_toArray, List.set_cons_zero, List.set_cons_succ]
      clear hK K
      refine runL (i := 13) rfl rfl (by kernel_rfl) (fun K hK => ?_)
      refine oper_append_own_at _ _ 25 rfl w.heap.size 5 i1 (.int .u8 0) 1 1 Try.underlying25 I1.out.1 I1.out.2.1 I1.out.2.2.1 I1.out.2.2.2 rfl (by decide) b (catB ls ms j).length ((catB ls ms j).map (Value.int .u8)) rfl (owns_ext HO.out hxa) ⟨wd.heap.size, 0, none⟩ kn kn ((bts ln kn).map (Value.int .u8)) rfl (by rw [List.length_map, bts_len, Nat.mul_one]) (news_alloc wd _ _) (ints_oneCell _ _) (by unfold maxLen; omega) (by omega) hq1.size ?hfin
      case hfin =>
        intro v' w2 ho2 hgb
        have hq2 : Ext w w2 := Below.grown hq1 hgb hq1.size (fun g hg => (HO.out.lt g hg).1)
        refine hK.out _ _ hq2 (fun _ => ?_)
        try simp only [Act.put, List.setIfInBounds_toArray, List.set_cons_zero, List.set_cons_succ]
        clear hK K
        refine takeL (i := 14) (v := v') rfl (by kernel_rfl) (by kernel_rfl) (by kernel_rfl) (fun _ _ _ h => h) (Or.inl ⟨rfl, fun _ _ => rfl⟩) hq2 ?_
        simp only [Act.put, List.setIfInBounds_toArray, List.set_cons_zero, List.set_cons_succ]
        refine wpAnyH_done (by kernel_rfl) ?_ _
        have HO2 := Lib.hid (show w2.ownsRow w.heap.size 5 1 v' (catB ls ms (j + 1)).length ((catB ls ms (j + 1)).map (Value.int .u8)) by
          rw [HS.out, List.length_append, bts_len, List.map_append]
          exact ho2)
        clear ho2 hgb
        go_wp2_with fail
        go_roundw
        case rel => exact ⟨j + 1, _, _, rfl, by omega, by go_num, rfl, HO2.out, hq2⟩
        case measure => simp [intOf]; omega
    · obtain rfl : j = ls.length := by omega
      have hlen := catB_len ls ms ls.length
      have dl : decide ((ls.length : Int) < (ls.length : Int)) = false := by simp
      go_wp2_with fail
      refine (new_any b (catB ls ms ls.length) _ (isBytes_own HO.out) (catB_rg ls ms _) (by omega)).mono ?_
      rintro e w3 ⟨R, rfl, hR, hRs, hx3⟩
      have hR0 : Rd w3 R R (restB ls ms ls.length 0) false := hR
      have hE3 := HE.out.trans hx3
      have hRw : w.heap.size ≤ R := Nat.le_trans HE.out.size hRs
      clear hR
      go_wp2_with fail
      go_loopw [9] (fun i wr => ∃ (k : Nat) (wo : World), wo = wr ∧ k ≤ ls.length ∧ i = .int .i64 k ∧ Rd wo R R (restB ls ms ls.length k) false ∧ Ext w wo) (fun i _ => ls.length - (intOf i).toNat)
      case atStart => exact ⟨0, _, rfl, by omega, rfl, hR0, hE3⟩
      case round =>
        clear hR0 hE3
        obtain ⟨k, w4, rfl, hk, rfl, hR, hE4⟩ := hrel
        have HR := Lib.hid hR
        have HE4 := Lib.hid hE4
        clear hR hE4
        by_cases hlt2 : k < ls.length
        · obtain ⟨p, off, rfl, hp, hp1, hp2, hpc⟩ := HA.out (by omega)
          obtain ⟨p2, off2, rfl, hq, hq1, hq2, hqc⟩ := HA'.out (by omega)
          have h1 : k < ls.length := by omega
          have h2 : k < ms.length := by omega
          have hwl := wf_u64 (HV.out (ls.getD k 0) (by simp [List.getD, h1]))
          have hwm := wf_u8 (HU.out (ms.getD k 0) (by simp [List.getD, h2]))
          obtain ⟨ln, hln⟩ : ∃ m : Nat, ls.getD k 0 = m := ⟨(ls.getD k 0).toNat, by omega⟩
          obtain ⟨mj, hmj⟩ : ∃ m : Int, ms.getD k 0 = m := ⟨_, rfl⟩
          obtain ⟨kn, hkn⟩ : ∃ m : Nat, (m : Int) = 1 + mj % 8 := ⟨(1 + mj % 8).toNat, by omega⟩
          have c1 : w.cell? ⟨p, off + k, none⟩ = some (.int .u64 (ls.getD k 0)) := hpc k h1
          have c2 := hqc k h2
          have hbk := took_back (ls := ls) (ms := ms) (kn := kn) hlt2 (by rw [hmj]; exact hkn)
          rw [hln] at c1 hwl hbk
          rw [hmj] at c2 hwm
          rw [Int.toNat_natCast] at hbk
          have HBK := Lib.hid hbk
          have hk8 : k < 60 := by omega
          have hlw : ln < 18446744073709551616 := by omega
          have dl : decide ((k : Int) < (ls.length : Int)) = true := by simp; omega
          have dm : decide ((k : Int) < (ms.length : Int)) = true := by simp; omega
          have HKN := Lib.hid hkn
          have C1 := Lib.hid c1
          have d2 := (HE4.out.cell (p := ⟨p2, off2 + k, none⟩) hq).trans c2
          clear hpc hqc hln hmj c1 c2 hbk hwl hkn
          go_upto_region 16 with fail
          have hkn := HKN.out
          rw [← hkn]
          clear HKN
          have hk1 : kn = 1 ∨ kn = 2 ∨ kn = 3 ∨ kn = 4 ∨ kn = 5 ∨ kn = 6 ∨ kn = 7 ∨ kn = 8 := by omega
          clear hkn
          go_wp2_with fail
          refine (take_any R _ false kn _ HR.out).mono ?_
          rintro e w5 ⟨rfl, hR5, hg5⟩
          rw [HBK.out.1]
          rw [HBK.out.2.1, HBK.out.2.2] at hR5
          have hE5 : Ext w w5 := only_ext HE4.out hRw hg5
          have d1 := (hE5.cell (p := ⟨p, off + k, none⟩) hp).trans C1.out
          have HR5 := Lib.hid hR5
          clear hR5 hg5 d2 hwm
          rcases hk1 with rfl | rfl | rfl | rfl | rfl | rfl | rfl | rfl
          · have hs := sh_1 ln hlw
            go_wp2_with fail
            go_roundw
            case rel => exact ⟨k + 1, _, rfl, by omega, by go_num, HR5.out, hE5⟩
            case measure => simp [intOf]; omega
          · have hs := sh_2 ln hlw
            go_wp2_with fail
            go_roundw
            case rel => exact ⟨k + 1, _, rfl, by omega, by go_num, HR5.out, hE5⟩
            case measure => simp [intOf]; omega
          · have hs := sh_3 ln hlw
            go_wp2_with fail
            go_roundw
            case rel => exact ⟨k + 1, _, rfl, by omega, by go_num, HR5.out, hE5⟩
            case measure => simp [intOf]; omega
          · have hs := sh_4 ln hlw
            go_wp2_with fail
            go_roundw
            case rel => exact ⟨k + 1, _, rfl, by omega, by go_num, HR5.out, hE5⟩
            case measure => simp [intOf]; omega
          · have hs := sh_5 ln hlw
            go_wp2_with fail
            go_roundw
            case rel => exact ⟨k + 1, _, rfl, by omega, by go_num, HR5.out, hE5⟩
            case measure => simp [intOf]; omega
          · have hs := sh_6 ln hlw
            go_wp2_with fail
            go_roundw
            case rel => exact ⟨k + 1, _, rfl, by omega, by go_num, HR5.out, hE5⟩
            case measure => simp [intOf]; omega
          · have hs := sh_7 ln hlw
            go_wp2_with fail
            go_roundw
            case rel => exact ⟨k + 1, _, rfl, by omega, by go_num, HR5.out, hE5⟩
            case measure => simp [intOf]; omega
          · have hs := sh_8 ln hlw
            go_wp2_with fail
            go_roundw
            case rel => exact ⟨k + 1, _, rfl, by omega, by go_num, HR5.out, hE5⟩
            case measure => simp [intOf]; omega
        · obtain rfl : k = ls.length := by omega
          have dl : decide ((ls.length : Int) < (ls.length : Int)) = false := by simp
          have hR9 : Rd w4 R R [] false := by have := HR.out; rw [restB_end] at this; exact this
          obtain ⟨a2, cap2, d0, d1, dn⟩ := rd_cells0 hR9
          go_wp2_with fail
          refine (left_any R [] false _ hR9).mono ?_
          rintro e w6 ⟨rfl, rfl⟩
          go_wp2_with fail
          refine (short_any R [] false _ hR9).mono ?_
          rintro e w6 ⟨rfl, rfl⟩
          go_wp2_with fail
          go_ret
          exact ⟨rfl, HE4.out⟩

set_option maxRecDepth 100000 in
set_option maxHeartbeats 8000000 in
theorem back_B {w : World} (v : Value) (ls : List Int) (hv : IsInts w .u64 v ls ∧ ∀ z ∈ ls, (Lit.int .u64 z).wf = true) (u : Value) (ms : List Int) (hu : IsInts w .u8 u ms ∧ ∀ z ∈ ms, (Lit.int .u8 z).wf = true) (hl : ls.length ≤ 60) (hc : ms.length < ls.length) :
    Calls Try.prog 5 #[v, u] w fun e w' => e = .returned (.bool true) ∧ Ext w w' := by
  obtain ⟨a, cap, rfl, hn, ha⟩ := ints_form hv.1
  obtain ⟨a', cap', rfl, hn', ha'⟩ := ints_form hu.1
  have HA := Lib.hid ha
  have HA' := Lib.hid ha'
  have HV := Lib.hid hv.2
  have HU := Lib.hid hu.2
  have hd : decide (60 < (ls.length : Int)) = false := by simp; omega
  obtain ⟨i1, hi1, hz1, hs1, hb1⟩ := info_parts info_u8
  have I1 := Lib.hid (And.intro hi1 (And.intro hz1 (And.intro hs1 hb1)))
  clear ha ha' hv hu hi1 hz1 hs1 hb1
  go_enter Try.func5, Try.ntmps5
  go_wp2_with fail
  refine (awake1 _).mono ?_
  rintro e w1 ⟨rfl, g1⟩
  go_wp2_with fail
  go_loopw [7, 6] (fun i x wr => ∃ (j : Nat) (b : Value) (wo : World), wo = wr ∧ j ≤ ms.length ∧ i = .int .i64 j ∧ b = x ∧ wo.ownsRow w.heap.size 5 1 b (catB ls ms j).length ((catB ls ms j).map (Value.int .u8)) ∧ Ext w wo) (fun i _ _ => ms.length - (intOf i).toNat)
  case atStart => exact ⟨0, _, _, rfl, by omega, rfl, rfl, ⟨rfl, .inl ⟨rfl, rfl⟩⟩, g1⟩
  case round =>
    clear g1
    obtain ⟨j, b, wo, rfl, hj, rfl, rfl, hO, hE⟩ := hrel
    have HO := Lib.hid hO
    have HE := Lib.hid hE
    clear hO hE
    by_cases hlt : j < ms.length
    · obtain ⟨p, off, rfl, hp, hp1, hp2, hpc⟩ := HA.out (by omega)
      obtain ⟨p2, off2, rfl, hq, hq1, hq2, hqc⟩ := HA'.out (by omega)
      have h1 : j < ls.length := by omega
      have h2 : j < ms.length := by omega
      have hwl := wf_u64 (HV.out (ls.getD j 0) (by simp [List.getD, h1]))
      have hwm := wf_u8 (HU.out (ms.getD j 0) (by simp [List.getD, h2]))
      obtain ⟨ln, hln⟩ : ∃ m : Nat, ls.getD j 0 = m := ⟨(ls.getD j 0).toNat, by omega⟩
      obtain ⟨mj, hmj⟩ : ∃ m : Int, ms.getD j 0 = m := ⟨_, rfl⟩
      obtain ⟨kn, hkn⟩ : ∃ m : Nat, (m : Int) = 1 + mj % 8 := ⟨(1 + mj % 8).toNat, by omega⟩
      have c1 := hpc j h1
      have c2 := hqc j h2
      rw [hln] at c1 hwl
      rw [hmj] at c2 hwm
      have hlen := catB_len ls ms j
      have HS := Lib.hid (show catB ls ms (j + 1) = catB ls ms j ++ bts ln kn by
        show catB ls ms j ++ _ = _
        rw [hln, hmj, ← hkn, Int.toNat_natCast, Int.toNat_natCast])
      have hj8 : j < 60 := by omega
      have hk8 : 1 ≤ kn ∧ kn ≤ 8 := by omega
      have hlw : ln < 18446744073709551616 := by omega
      have dl : decide ((j : Int) < (ls.length : Int)) = true := by simp; omega
      have dm : decide ((j : Int) < (ms.length : Int)) = true := by simp; omega
      have HKN := Lib.hid hkn
      clear hpc hqc hln hmj hkn
      go_upto_region 8 with fail
      have hkn := HKN.out
      refine beginL (S := fun W' => Ext w W') (by kernel_rfl) ?_
      intro wd hqx
      have hq0 : Ext w wd := HE.out.trans hqx
      refine takeL (i := 0) (v := b) rfl (by kernel_rfl) (by kernel_rfl) (by kernel_rfl) (fun _ _ _ h => h) (Or.inl ⟨rfl, fun _ _ => rfl⟩) hq0 ?_
      simp only [Act.put, List.setIfInBounds_toArray, List.set_cons_zero, List.set_cons_succ]
      refine takeL (i := 1) (v := (.slice (some ⟨p, off, none⟩) ls.length cap)) rfl (by kernel_rfl) (by kernel_rfl) (by kernel_rfl) (fun _ _ _ h => h) (Or.inl ⟨rfl, fun _ _ => rfl⟩) hq0 ?_
      simp only [Act.put, List.setIfInBounds_toArray, List.set_cons_zero, List.set_cons_succ]
      refine takeL (i := 2) (v := (.int .i64 (j : Int))) rfl (by kernel_rfl) (by kernel_rfl) (by kernel_rfl) (fun _ _ _ h => h) (Or.inl ⟨rfl, fun _ _ => rfl⟩) hq0 ?_
      simp only [Act.put, List.setIfInBounds_toArray, List.set_cons_zero, List.set_cons_succ]
      refine takeL (i := 3) (v := (.pointer (some ⟨p, off + j, none⟩))) rfl (by kernel_rfl) (by kernel_rfl) (by kernel_rfl) (fun _ _ _ h => h) (Or.inl ⟨rfl, fun W' _ => by go_simp⟩) hq0 ?_
      simp only [Act.put, List.setIfInBounds_toArray, List.set_cons_zero, List.set_cons_succ]
      refine takeL (i := 4) (v := _) rfl (by kernel_rfl) (by kernel_rfl) (by kernel_rfl) (fun _ _ _ h => h) (yieldsIf_cell rfl 22 _ rfl ⟨p, off + j, none⟩ rfl (.int .u64 (ln : Int)) _ (fun W' hW' => (hW'.cell (p := ⟨p, off + j, none⟩) hp).trans c1) Try.underlying22 rfl) hq0 ?_
      simp only [Act.put, List.setIfInBounds_toArray, List.set_cons_zero, List.set_cons_succ]
      refine takeL (i := 5) (v := (.slice (some ⟨p2, off2, none⟩) ms.length cap')) rfl (by kernel_rfl) (by kernel_rfl) (by kernel_rfl) (fun _ _ _ h => h) (Or.inl ⟨rfl, fun _ _ => rfl⟩) hq0 ?_
      simp only [Act.put, List.setIfInBounds_toArray, List.set_cons_zero, List.set_cons_succ]
      refine takeL (i := 6) (v := (.int .i64 (j : Int))) rfl (by kernel_rfl) (by kernel_rfl) (by kernel_rfl) (fun _ _ _ h => h) (Or.inl ⟨rfl, fun _ _ => rfl⟩) hq0 ?_
      simp only [Act.put, List.setIfInBounds_toArray, List.set_cons_zero, List.set_cons_succ]
      refine takeL (i := 7) (v := (.pointer (some ⟨p2, off2 + j, none⟩))) rfl (by kernel_rfl) (by kernel_rfl) (by kernel_rfl) (fun _ _ _ h => h) (Or.inl ⟨rfl, fun W' _ => by go_simp⟩) hq0 ?_
      simp only [Act.put, List.setIfInBounds_toArray, List.set_cons_zero, List.set_cons_succ]
      refine takeL (i := 8) (v := _) rfl (by kernel_rfl) (by kernel_rfl) (by kernel_rfl) (fun _ _ _ h => h) (yieldsIf_cell rfl 5 _ rfl ⟨p2, off2 + j, none⟩ rfl (.int .u8 mj) _ (fun W' hW' => (hW'.cell (p := ⟨p2, off2 + j, none⟩) hq).trans c2) Try.underlying5 rfl) hq0 ?_
      simp only [Act.put, List.setIfInBounds_toArray, List.set_cons_zero, List.set_cons_succ]
      refine takeL (i := 9) (v := (.int .u8 (mj % 8))) rfl (by kernel_rfl) (by kernel_rfl) (by kernel_rfl) (fun _ _ _ h => h) (Or.inl ⟨rfl, fun W' _ => by go_simp <;> exact Int.tmod_eq_emod_of_nonneg (by omega)⟩) hq0 ?_
      simp only [Act.put, List.setIfInBounds_toArray, List.set_cons_zero, List.set_cons_succ]
      refine takeL (i := 10) (v := (.int .i64 (mj % 8))) rfl (by kernel_rfl) (by kernel_rfl) (by kernel_rfl) (fun _ _ _ h => h) (Or.inl ⟨rfl, fun W' _ => by go_simp <;> (rw [IntKind.wrap_i64]; omega)⟩) hq0 ?_
      simp only [Act.put, List.setIfInBounds_toArray, List.set_cons_zero, List.set_cons_succ]
      refine takeL (i := 11) (v := (.int .i64 (kn : Int))) rfl (by kernel_rfl) (by kernel_rfl) (by kernel_rfl) (fun _ _ _ h => h) (Or.inl ⟨rfl, fun W' _ => by go_simp <;> (rw [IntKind.wrap_i64]; omega)⟩) hq0 ?_
      simp only [Act.put, List.setIfInBounds_toArray, List.set_cons_zero, List.set_cons_succ]
      clear hkn
      refine runL (i := 12) rfl rfl (by kernel_rfl) (fun K hK => ?_)
      go_simp
      refine (put_any ln kn wd hlw hk8.1 hk8.2).mono ?_
      rintro e wa ⟨rfl, rfl⟩
      have hq1 : Ext w (wd.alloc (.cells ((bts ln kn).map (Value.int .u8)).toArray 5)) := hq0.alloc _
      have hxa := hqx.alloc (.cells ((bts ln kn).map (Value.int .u8)).toArray 5)
      refine hK.out _ _ hq1 (fun _ => ?_)
      try simp only [Act.put, List.setIfInBounds_toArray, List.set_cons_zero, List.set_cons_succ]
      clear hK K
      refine runL (i := 13) rfl rfl (by kernel_rfl) (fun K hK => ?_)
      refine oper_append_own_at _ _ 25 rfl w.heap.size 5 i1 (.int .u8 0) 1 1 Try.underlying25 I1.out.1 I1.out.2.1 I1.out.2.2.1 I1.out.2.2.2 rfl (by decide) b (catB ls ms j).length ((catB ls ms j).map (Value.int .u8)) rfl (owns_ext HO.out hxa) ⟨wd.heap.size, 0, none⟩ kn kn ((bts ln kn).map (Value.int .u8)) rfl (by rw [List.length_map, bts_len, Nat.mul_one]) (news_alloc wd _ _) (ints_oneCell _ _) (by unfold maxLen; omega) (by omega) hq1.size ?hfin
      case hfin =>
        intro v' w2 ho2 hgb
        have hq2 : Ext w w2 := Below.grown hq1 hgb hq1.size (fun g hg => (HO.out.lt g hg).1)
        refine hK.out _ _ hq2 (fun _ => ?_)
        try simp only [Act.put, List.setIfInBounds_toArray, List.set_cons_zero, List.set_cons_succ]
        clear hK K
        refine takeL (i := 14) (v := v') rfl (by kernel_rfl) (by kernel_rfl) (by kernel_rfl) (fun _ _ _ h => h) (Or.inl ⟨rfl, fun _ _ => rfl⟩) hq2 ?_
        simp only [Act.put, List.setIfInBounds_toArray, List.set_cons_zero, List.set_cons_succ]
        refine wpAnyH_done (by kernel_rfl) ?_ _
        have HO2 := Lib.hid (show w2.ownsRow w.heap.size 5 1 v' (catB ls ms (j + 1)).length ((catB ls ms (j + 1)).map (Value.int .u8)) by
          rw [HS.out, List.length_append, bts_len, List.map_append]
          exact ho2)
        clear ho2 hgb
        go_wp2_with fail
        go_roundw
        case rel => exact ⟨j + 1, _, _, rfl, by omega, by go_num, rfl, HO2.out, hq2⟩
        case measure => simp [intOf]; omega
    · obtain rfl : j = ms.length := by omega
      have hlen := catB_len ls ms ms.length
      have dl : decide ((ms.length : Int) < (ls.length : Int)) = true := by simp; omega
      have dm : decide ((ms.length : Int) < (ms.length : Int)) = false := by simp
      go_wp2_with fail
      refine (new_any b (catB ls ms ms.length) _ (isBytes_own HO.out) (catB_rg ls ms _) (by omega)).mono ?_
      rintro e w3 ⟨R, rfl, hR, hRs, hx3⟩
      have hR0 : Rd w3 R R (restB ls ms ms.length 0) false := hR
      have hE3 := HE.out.trans hx3
      have hRw : w.heap.size ≤ R := Nat.le_trans HE.out.size hRs
      clear hR
      go_wp2_with fail
      go_loopw [9] (fun i wr => ∃ (k : Nat) (wo : World), wo = wr ∧ k ≤ ms.length ∧ i = .int .i64 k ∧ Rd wo R R (restB ls ms ms.length k) false ∧ Ext w wo) (fun i _ => ms.length - (intOf i).toNat)
      case atStart => exact ⟨0, _, rfl, by omega, rfl, hR0, hE3⟩
      case round =>
        clear hR0 hE3
        obtain ⟨k, w4, rfl, hk, rfl, hR, hE4⟩ := hrel
        have HR := Lib.hid hR
        have HE4 := Lib.hid hE4
        clear hR hE4
        by_cases hlt2 : k < ms.length
        · obtain ⟨p, off, rfl, hp, hp1, hp2, hpc⟩ := HA.out (by omega)
          obtain ⟨p2, off2, rfl, hq, hq1, hq2, hqc⟩ := HA'.out (by omega)
          have h1 : k < ls.length := by omega
          have h2 : k < ms.length := by omega
          have hwl := wf_u64 (HV.out (ls.getD k 0) (by simp [List.getD, h1]))
          have hwm := wf_u8 (HU.out (ms.getD k 0) (by simp [List.getD, h2]))
          obtain ⟨ln, hln⟩ : ∃ m : Nat, ls.getD k 0 = m := ⟨(ls.getD k 0).toNat, by omega⟩
          obtain ⟨mj, hmj⟩ : ∃ m : Int, ms.getD k 0 = m := ⟨_, rfl⟩
          obtain ⟨kn, hkn⟩ : ∃ m : Nat, (m : Int) = 1 + mj % 8 := ⟨(1 + mj % 8).toNat, by omega⟩
          have c1 : w.cell? ⟨p, off + k, none⟩ = some (.int .u64 (ls.getD k 0)) := hpc k h1
          have c2 := hqc k h2
          have hbk := took_back (ls := ls) (ms := ms) (kn := kn) hlt2 (by rw [hmj]; exact hkn)
          rw [hln] at c1 hwl hbk
          rw [hmj] at c2 hwm
          rw [Int.toNat_natCast] at hbk
          have HBK := Lib.hid hbk
          have hk8 : k < 60 := by omega
          have hlw : ln < 18446744073709551616 := by omega
          have dl : decide ((k : Int) < (ls.length : Int)) = true := by simp; omega
          have dm : decide ((k : Int) < (ms.length : Int)) = true := by simp; omega
          have HKN := Lib.hid hkn
          have C1 := Lib.hid c1
          have d2 := (HE4.out.cell (p := ⟨p2, off2 + k, none⟩) hq).trans c2
          clear hpc hqc hln hmj c1 c2 hbk hwl hkn
          go_upto_region 16 with fail
          have hkn := HKN.out
          rw [← hkn]
          clear HKN
          have hk1 : kn = 1 ∨ kn = 2 ∨ kn = 3 ∨ kn = 4 ∨ kn = 5 ∨ kn = 6 ∨ kn = 7 ∨ kn = 8 := by omega
          clear hkn
          go_wp2_with fail
          refine (take_any R _ false kn _ HR.out).mono ?_
          rintro e w5 ⟨rfl, hR5, hg5⟩
          rw [HBK.out.1]
          rw [HBK.out.2.1, HBK.out.2.2] at hR5
          have hE5 : Ext w w5 := only_ext HE4.out hRw hg5
          have d1 := (hE5.cell (p := ⟨p, off + k, none⟩) hp).trans C1.out
          have HR5 := Lib.hid hR5
          clear hR5 hg5 d2 hwm
          rcases hk1 with rfl | rfl | rfl | rfl | rfl | rfl | rfl | rfl
          · have hs := sh_1 ln hlw
            go_wp2_with fail
            go_roundw
            case rel => exact ⟨k + 1, _, rfl, by omega, by go_num, HR5.out, hE5⟩
            case measure => simp [intOf]; omega
          · have hs := sh_2 ln hlw
            go_wp2_with fail
            go_roundw
            case rel => exact ⟨k + 1, _, rfl, by omega, by go_num, HR5.out, hE5⟩
            case measure => simp [intOf]; omega
          · have hs := sh_3 ln hlw
            go_wp2_with fail
            go_roundw
            case rel => exact ⟨k + 1, _, rfl, by omega, by go_num, HR5.out, hE5⟩
            case measure => simp [intOf]; omega
          · have hs := sh_4 ln hlw
            go_wp2_with fail
            go_roundw
            case rel => exact ⟨k + 1, _, rfl, by omega, by go_num, HR5.out, hE5⟩
            case measure => simp [intOf]; omega
          · have hs := sh_5 ln hlw
            go_wp2_with fail
            go_roundw
            case rel => exact ⟨k + 1, _, rfl, by omega, by go_num, HR5.out, hE5⟩
            case measure => simp [intOf]; omega
          · have hs := sh_6 ln hlw
            go_wp2_with fail
            go_roundw
            case rel => exact ⟨k + 1, _, rfl, by omega, by go_num, HR5.out, hE5⟩
            case measure => simp [intOf]; omega
          · have hs := sh_7 ln hlw
            go_wp2_with fail
            go_roundw
            case rel => exact ⟨k + 1, _, rfl, by omega, by go_num, HR5.out, hE5⟩
            case measure => simp [intOf]; omega
          · have hs := sh_8 ln hlw
            go_wp2_with fail
            go_roundw
            case rel => exact ⟨k + 1, _, rfl, by omega, by go_num, HR5.out, hE5⟩
            case measure => simp [intOf]; omega
        · obtain rfl : k = ms.length := by omega
          have dl : decide ((ms.length : Int) < (ls.length : Int)) = true := by simp; omega
          have dm : decide ((ms.length : Int) < (ms.length : Int)) = false := by simp
          have hR9 : Rd w4 R R [] false := by have := HR.out; rw [restB_end] at this; exact this
          obtain ⟨a2, cap2, d0, d1, dn⟩ := rd_cells0 hR9
          go_wp2_with fail
          refine (left_any R [] false _ hR9).mono ?_
          rintro e w6 ⟨rfl, rfl⟩
          go_wp2_with fail
          refine (short_any R [] false _ hR9).mono ?_
          rintro e w6 ⟨rfl, rfl⟩
          go_wp2_with fail
          go_ret
          exact ⟨rfl, HE4.out⟩

set_option maxRecDepth 100000 in
set_option maxHeartbeats 1000000 in
theorem law_OctetBack {w : World} (v : Value) (ls : List Int) (hv : IsInts w .u64 v ls ∧ ∀ z ∈ ls, (Lit.int .u64 z).wf = true) (u : Value) (ms : List Int) (hu : IsInts w .u8 u ms ∧ ∀ z ∈ ms, (Lit.int .u8 z).wf = true) :
    Calls Try.prog 5 #[v, u] w fun e w' => e = .returned (.bool true) ∧ Ext w w' := by
  by_cases hl : ls.length ≤ 60
  · by_cases hc : ls.length ≤ ms.length
    · exact back_A v ls hv u ms hu hl hc
    · exact back_B v ls hv u ms hu hl (by omega)
  · obtain ⟨a, cap, rfl, hn, ha⟩ := ints_form hv.1
    have hd : decide (60 < (ls.length : Int)) = true := by simp; omega
    clear ha hv hu
    go_enter Try.func5, Try.ntmps5
    go_wp2_with fail
    refine (awake1 _).mono ?_
    rintro e w1 ⟨rfl, g1⟩
    go_wp2_with fail
    go_ret
    exact ⟨rfl, g1⟩

end Go.Proofs.Ytgiobcbdbhnneaa
