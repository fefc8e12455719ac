/- How far it is: the hops that leave each point. No statement is proved here. -/
import Derived.Test.YtendaloeonbbeaaReD
import Derived.Deep.OwnRows
import Derived.Deep.AppendLies
import Derived.OwnWalk
namespace Go.Proofs.Ytendaloeonbbeaa
open Go.RowKit Go.BigFrame Go.WideShapes Go.ChangeShapes Go.Deep
set_option linter.unusedVariables false
set_option linter.unusedSimpArgs false

def HZ : Array Value := #[.int .i64 0, .int .i64 0, .int .u32 0]
theorem zero_hop : ∀ w, (zeroValue 47).run Try.prog w = .ok (.agg HZ) w := (zero_of_info (P := Try.prog) (t := 47) (v := .agg HZ) (n := 3) (by kernel_rfl)).1
theorem info_hop : (Try.prog.info? 47).map (fun i => (i.zero, i.size, i.bytes)) = some (some (.agg HZ), 3, 24) := by kernel_rfl
theorem info_hops : (Try.prog.info? 26).map (fun i => (i.zero, i.size, i.bytes)) = some (some (.slice Option.none 0 0), 1, 24) := by kernel_rfl
theorem size_hop : (Try.prog.info? 47).map (·.size) = some 3 := by kernel_rfl
theorem hop_b1 (f t c : Int) : Instr.fill (fun i => some (i * 3, 3)) ((Array.range (1 * 3)).map (HZ[· % HZ.size]!)) [(0, .agg #[.int .i64 f, .int .i64 t, .int .u32 c])] = some #[.int .i64 f, .int .i64 t, .int .u32 c] := by kernel_rfl
theorem own_form2 {w : World} {base m n : Nat} {e : TypeId} {v : Value} {xs : List Value} (h : w.ownsRow base e m v n xs) : ∃ a cap, v = .slice a n cap := by
  obtain ⟨h0, ⟨rfl, rfl⟩ | ⟨g, cap, cur, rfl, hb, hg, hn, hm, hs, ht⟩⟩ := h
  · exact ⟨_, _, rfl⟩
  · exact ⟨_, _, rfl⟩
theorem oper_append_own_at {P : Program} {o : Oper} {a : Act} {w : World} {K : Act → World → Prop} {Q : Exit → Act → World → Prop} (s x : Operand) (t : TypeId)
    (ho : o.op = .call { callee := .builtin .append, args := #[s, x], argTypes := #[t, t] })
    (base : Nat) (e : TypeId) (i : TypeInfo) (z : Value) (size bytes : Nat) (ht : P.underlying t = some (.slice e)) (hi : P.info? e = some i) (hz : i.zero = some z)
    (hsize : i.size = size) (hby : i.bytes = bytes) (hzs : z.cells.size = size) (hsz : 0 < size)
    (v : Value) (n : Nat) (xs : List Value) (hs : a.eval s = v) (hown : w.ownsRow base e size v n xs)
    (ad : Addr) (m c : Nat) (news : List Value) (hx : a.eval x = .slice (some ad) m c) (hl : news.length = m * size) (hnews : ∀ j u, news[j]? = some u → w.cell? (ad.add j) = some u) (h1 : ∀ u ∈ news, u.oneCell' = true)
    (h63 : n + m ≤ maxLen) (hbytes : (n + m) * bytes ≤ 140737488355328) (hbase : base ≤ w.heap.size)
    (h : ∀ v' w', w'.ownsRow base e size v' (n + m) (xs ++ news) → w.grownBy w' v.ownBlock → (v'.ownBlock = v.ownBlock ∨ v'.ownBlock = some w.heap.size) → K (a.put o.dst v') w') : Oper.wp P o a w K Q := by
  obtain ⟨v', w', hr, h2, h3, h4, h5⟩ := run_append_own_at (P := P) w base t o.type e i z size bytes ht hi hz hsize hby hzs hsz v n xs hown ad m c news hl hnews h1 h63 hbytes hbase
  unfold Oper.wp execOp
  simp only [ho, resolve, invoke, builtin, Sem.run_bind, Sem.run_pure, Result.andThen_ok, List.map_toArray, List.map_cons, List.map_nil, hs, hx, hr]
  exact h v' w' h2 h3 h5
theorem Rows.made (w : World) (n : Nat) (S : Nat → List Hp) (hS : ∀ f, S f = []) : Rows (w.alloc (.cells (madeCells #[.slice Option.none 0 0] n) 26)) (w.heap.size + 1) w.heap.size n S (madeCells #[.slice Option.none 0 0] n).toList := by
  have hz : ∀ f, f < n → (madeCells #[Value.slice Option.none 0 0] n).toList.getD f undef = .slice Option.none 0 0 := fun f hf => by
    simp [madeCells, List.getD, hf, Nat.mod_one]
  refine ⟨by rw [Array.toArray_toList]; exact heap_alloc_new _ _, by simp [size_madeCells], by omega, fun f hf => ?_, fun f g hf hg _ m hm => ?_⟩
  · rw [hz f hf, hS f]
    exact ⟨rfl, .inl ⟨rfl, rfl⟩⟩
  · rw [hz f hf] at hm
    simp [Value.ownBlock] at hm
theorem set_row {l : List Value} {f : Nat} {v : Value} (hf : f < l.length) : (l.toArray.toList.take f ++ (#[v] : Array Value).toList ++ l.toArray.toList.drop (f + (#[v] : Array Value).size)).toArray = (l.set f v).toArray := by
  rw [List.set_eq_take_append_cons_drop, if_pos hf]
  simp
def Hp.wf (h : Hp) : Prop := (-9223372036854775808 ≤ h.f ∧ h.f < 9223372036854775808) ∧ (-9223372036854775808 ≤ h.t ∧ h.t < 9223372036854775808) ∧ 0 ≤ h.c ∧ h.c < 4294967296
set_option maxRecDepth 100000 in
set_option maxHeartbeats 4000000 in
theorem rleaving_any (n : Nat) (v : Value) (L : List Hp) (w : World) (h : HopsAt w v L) (hn : 1 ≤ n) (hn2 : n ≤ 1000) (hL : L.length ≤ 100000) (hwf : ∀ h ∈ L, h.wf) :
    Calls Try.prog 30 #[.int .i64 n, v] w fun e w' => ∃ T vs, e = .returned (.slice (some ⟨T, 0, none⟩) n n) ∧ w.heap.size ≤ T ∧ Rows w' (T + 1) T n (leaveF n L) vs ∧ Ext w w' := by
  obtain ⟨a, cap, rfl, hm, hf⟩ := h
  obtain ⟨i1, hi1, hz1, hs1, hb1⟩ := info_parts info_hops
  obtain ⟨i2, hi2, hz2, hs2, hb2⟩ := info_parts info_hop
  have I1 := Lib.hid (And.intro hi1 (And.intro hz1 (And.intro hs1 hb1)))
  have I2 := Lib.hid (And.intro hi2 (And.intro hz2 (And.intro hs2 hb2)))
  have HF := Lib.hid hf
  have HW := Lib.hid hwf
  have HZH := Lib.hid zero_hop
  clear hi1 hz1 hs1 hb1 hi2 hz2 hs2 hb2 hf hwf
  go_enter Try.func30, Try.ntmps30
  go_wp2_with (first
    | fail
    | (at_make; refine wpList_make_row _ rfl _ _ 92 rfl 26 i1 (.slice Option.none 0 0) Try.underlying92 I1.out.1 I1.out.2.1 I1.out.2.2.1 rfl .i64 .i64 n rfl rfl (by rw [I1.out.2.2.2]; omega) (by omega) ?_))
  have hR0 := Rows.made w n (leaveF n []) (fun f => rfl)
  have hE0 : Ext w (w.alloc (.cells (madeCells #[.slice Option.none 0 0] n) 26)) := (Ext.refl _).alloc _
  have hT0 : w.heap.size ≤ w.heap.size := Nat.le_refl _
  generalize hTT : w.heap.size = T at *
  generalize w.alloc (.cells (madeCells #[.slice Option.none 0 0] n) 26) = w1 at *
  generalize (madeCells #[Value.slice Option.none 0 0] n).toList = vs0 at *
  have HT0 := Lib.hid hTT
  clear hTT hT0
  go_loopw [12] (fun i wr => ∃ (k : Nat) (vs : List Value), k ≤ L.length ∧ i = .int .i64 k ∧ Rows wr (T + 1) T n (leaveF n (L.take k)) vs ∧ Ext w wr) (fun i _ => L.length - (intOf i).toNat)
  case atStart => exact ⟨0, vs0, by omega, rfl, hR0, hE0⟩
  case round =>
    clear hR0 hE0
    obtain ⟨k, vs, hk, rfl, hR, hE⟩ := hrel
    have HR := Lib.hid hR
    have HE := Lib.hid hE
    clear hR hE
    by_cases hlt : k < L.length
    · obtain ⟨b, off, rfl, hb, hc1, hc2, hrg⟩ := HF.out (by omega)
      obtain ⟨h, hh⟩ : ∃ h, L[k]? = some h := ⟨_, List.getElem?_eq_getElem hlt⟩
      have hw := HW.out h (List.mem_of_getElem? hh)
      have HS := Lib.hid (show ∀ f, leaveF n (L.take (k + 1)) f = leaveF n (L.take k) f ++ (if (h.ok n && h.f == (f : Int)) = true then [h] else []) from fun f => by
        rw [List.take_add_one, hh]
        exact leaveF_snoc n _ h f)
      have HRG := Lib.hid (show wr.rangeAt b (off + k * 3) [.int .i64 h.f, .int .i64 h.t, .int .u32 h.c] from by
        have hx : h.L = [.int .i64 h.f, .int .i64 h.t, .int .u32 h.c] := rfl
        rw [← hx, ← flatH_at L k h hh]
        have h2 := rangeR_ext hrg HE.out (by rw [HT0.out]; exact hb)
        intro j v hv
        rw [List.getElem?_take] at hv
        split at hv
        · rw [List.getElem?_drop] at hv
          rw [Nat.add_assoc]
          exact h2 _ _ hv
        · cases hv)
      have hk8 : k < 100000 := by omega
      have hm3 : (L.take k).length ≤ 100000 := by rw [List.length_take]; omega
      clear hrg hh
      have hzh := HZH.out
      go_upto_region 5 with (first
        | fail
        | ((with_reducible refine at_load 47 ?_); refine wpList_load_mid rfl 47 _ rfl b (off + k * 3) rfl [.int .i64 h.f, .int .i64 h.t, .int .u32 h.c] _ HRG.out Try.underlying47 rfl (by kernel_rfl) ?_)
        | ((with_reducible refine at_store 47 ?_); refine wpList_store_new3 rfl rfl 47 _ _ _ rfl HZ #[.int .i64 h.f, .int .i64 h.t, .int .u32 h.c] _ rfl ?_ rfl (by kernel_rfl) rfl rfl ?_; · rfl
           intro z1 hz1
           have hx1 : Ext wr z1 := by rw [hz1]; exact (Ext.refl _).alloc _
           have hq := heap_alloc_new wr (.cells #[.int .i64 h.f, .int .i64 h.t, .int .u32 h.c] 47)
           rw [← hz1] at hq
           obtain ⟨H0, hH0⟩ : ∃ m, wr.heap.size = m := ⟨_, rfl⟩
           rw [hH0] at hq ⊢
           have HQ := Lib.hid hq
           have HE1 := Lib.hid (HE.out.trans hx1)
           have HR1 := Lib.hid (HR.out.ext hx1)
           have c0 : z1.cell? ⟨H0, 0, none⟩ = some (.int .i64 h.f) := (cell_of_row _ _ _ _ _ _ hq).trans rfl
           have c1 : z1.cell? ⟨H0, 1, none⟩ = some (.int .i64 h.t) := (cell_of_row _ _ _ _ _ _ hq).trans rfl
           have HTH := Lib.hid (show T < H0 from by rw [← hH0]; exact heap_lt HR.out.row)
           have HOB := Lib.hid (show ∀ f m, f < n → (vs.getD f undef).ownBlock = some m → m < H0 from fun f m hf hm => by rw [← hH0]; exact (own_lt2 (HR.out.own f hf) hm).2)
           clear hz1 hx1 hq hH0))
      clear hzh
      by_cases g1 : 0 ≤ h.f
      rotate_left
      · have HV := Lib.hid (show leaveF n (L.take (k + 1)) = leaveF n (L.take k) from funext fun f => by rw [HS.out, if_neg (by simp [Hp.ok, g1]), List.append_nil])
        go_wp2_with fail
        go_roundw
        case rel => exact ⟨k + 1, vs, by omega, by go_num, by rw [HV.out]; exact HR1.out, HE1.out⟩
        case measure => simp [intOf]; omega
      by_cases g2 : h.f < n
      rotate_left
      · have HV := Lib.hid (show leaveF n (L.take (k + 1)) = leaveF n (L.take k) from funext fun f => by rw [HS.out, if_neg (by simp [Hp.ok, g2]), List.append_nil])
        go_wp2_with fail
        go_roundw
        case rel => exact ⟨k + 1, vs, by omega, by go_num, by rw [HV.out]; exact HR1.out, HE1.out⟩
        case measure => simp [intOf]; omega
      by_cases g3 : 0 ≤ h.t
      rotate_left
      · have HV := Lib.hid (show leaveF n (L.take (k + 1)) = leaveF n (L.take k) from funext fun f => by rw [HS.out, if_neg (by simp [Hp.ok, g3]), List.append_nil])
        go_wp2_with fail
        go_roundw
        case rel => exact ⟨k + 1, vs, by omega, by go_num, by rw [HV.out]; exact HR1.out, HE1.out⟩
        case measure => simp [intOf]; omega
      by_cases g4 : h.t < n
      rotate_left
      · have HV := Lib.hid (show leaveF n (L.take (k + 1)) = leaveF n (L.take k) from funext fun f => by rw [HS.out, if_neg (by simp [Hp.ok, g4]), List.append_nil])
        go_wp2_with fail
        go_roundw
        case rel => exact ⟨k + 1, vs, by omega, by go_num, by rw [HV.out]; exact HR1.out, HE1.out⟩
        case measure => simp [intOf]; omega
      have hok : h.ok n = true := by simp [Hp.ok, g1, g2, g3, g4]
      obtain ⟨fn, hfn⟩ : ∃ fn : Nat, h.f = fn := ⟨h.f.toNat, by omega⟩
      have hfl : fn < n := by omega
      have HV := Lib.hid (show leaveF n (L.take (k + 1)) = fun g => if g = fn then leaveF n (L.take k) fn ++ [h] else leaveF n (L.take k) g from funext fun g => by
        rw [HS.out, hok, hfn]
        by_cases e : g = fn
        · subst e
          rw [if_pos rfl, if_pos (by simp)]
        · rw [if_neg e, if_neg (by simp; omega), List.append_nil])
      have hlen : (leaveF n (L.take k) fn).length ≤ 100000 := Nat.le_trans (leaveF_len _ _ _) hm3
      go_upto_region 6 with fail
      clear HS
      have hown := HR1.out.own fn hfl
      have HGT := Lib.hid (HR1.out.apart)
      obtain ⟨vf, hvf⟩ : ∃ x, vs.getD fn undef = x := ⟨_, rfl⟩
      have hvl := HR1.out.len
      have cT : z1.cell? ⟨T, fn, none⟩ = some vf := by
        rw [cell_of_row _ _ _ _ _ _ HR1.out.row, ← hvf]
        simp [List.getD, hvl, hfl]
      have HOF := Lib.hid (show ∀ m, vf.ownBlock = some m → T < m ∧ m < H0 from fun m hm => ⟨by rw [← hvf] at hm; exact (own_lt2 (HR1.out.own fn hfl) hm).1, HOB.out fn m hfl (by rw [hvf]; exact hm)⟩)
      rw [hvf] at hown
      obtain ⟨av, cv, hvv⟩ := own_form2 hown
      have HOW := Lib.hid hown
      have HVF := Lib.hid hvf
      have HVV := Lib.hid hvv
      have hTl : T < z1.heap.size := heap_lt HR1.out.row
      have hHl : H0 < z1.heap.size := heap_lt HQ.out
      have hTF : ¬ vf.ownBlock = some T := fun e => by have := HOF.out T e; omega
      have hHF : ¬ vf.ownBlock = some H0 := fun e => by have := HOF.out H0 e; omega
      have c0f : z1.cell? ⟨H0, 0, none⟩ = some (.int .i64 fn) := by rw [← hfn]; exact c0
      have hH3 := Lib.hid HQ.out
      clear hown hvf hvv c0 c1
      refine beginW (S := fun W' => Mut (fun m => vf.ownBlock = some m) z1 W') (S2 := fun W' => Mut (fun m => m = T ∨ vf.ownBlock = some m) z1 W') 12 (by kernel_rfl) ?_
      intro wd hqx
      have hq0 : Mut (fun m => vf.ownBlock = some m) z1 wd := hqx.mut _
      refine takeW (i := 0) (z := 12) (v := (.slice (some ⟨T, 0, none⟩) n n)) rfl rfl (by kernel_rfl) (by kernel_rfl) (by kernel_rfl) (by kernel_rfl) (by kernel_rfl) (by kernel_rfl) (fun _ _ _ h => h) (Or.inl ⟨rfl, fun _ _ => rfl⟩) hq0 (hq0.mono (fun _ _ e => .inr e)) ?_
      simp only [Act.put, List.setIfInBounds_toArray, List.set_cons_zero, List.set_cons_succ]
      refine takeW (i := 1) (z := 12) (v := (.pointer (some ⟨H0, 0, none⟩))) rfl rfl (by kernel_rfl) (by kernel_rfl) (by kernel_rfl) (by kernel_rfl) (by kernel_rfl) (by kernel_rfl) (fun _ _ _ h => h) (Or.inl ⟨rfl, fun _ _ => rfl⟩) hq0 (hq0.mono (fun _ _ e => .inr e)) ?_
      simp only [Act.put, List.setIfInBounds_toArray, List.set_cons_zero, List.set_cons_succ]
      refine takeW (i := 2) (z := 12) (v := _) rfl rfl (by kernel_rfl) (by kernel_rfl) (by kernel_rfl) (by kernel_rfl) (by kernel_rfl) (by kernel_rfl) (fun _ _ _ h => h) (yieldsIf_cell rfl 3 _ rfl ⟨H0, 0, none⟩ rfl (.int .i64 (fn : Int)) _ (fun W' hW' => (hW'.cell (p := ⟨H0, 0, none⟩) hHl hHF).trans c0f) Try.underlying3 rfl) hq0 (hq0.mono (fun _ _ e => .inr e)) ?_
      simp only [Act.put, List.setIfInBounds_toArray, List.set_cons_zero, List.set_cons_succ]
      refine takeW (i := 3) (z := 12) (v := (.slice (some ⟨T, 0, none⟩) n n)) rfl rfl (by kernel_rfl) (by kernel_rfl) (by kernel_rfl) (by kernel_rfl) (by kernel_rfl) (by kernel_rfl) (fun _ _ _ h => h) (Or.inl ⟨rfl, fun _ _ => rfl⟩) hq0 (hq0.mono (fun _ _ e => .inr e)) ?_
      simp only [Act.put, List.setIfInBounds_toArray, List.set_cons_zero, List.set_cons_succ]
      refine takeW (i := 4) (z := 12) (v := (.pointer (some ⟨H0, 0, none⟩))) rfl rfl (by kernel_rfl) (by kernel_rfl) (by kernel_rfl) (by kernel_rfl) (by kernel_rfl) (by kernel_rfl) (fun _ _ _ h => h) (Or.inl ⟨rfl, fun _ _ => rfl⟩) hq0 (hq0.mono (fun _ _ e => .inr e)) ?_
      simp only [Act.put, List.setIfInBounds_toArray, List.set_cons_zero, List.set_cons_succ]
      refine takeW (i := 5) (z := 12) (v := _) rfl rfl (by kernel_rfl) (by kernel_rfl) (by kernel_rfl) (by kernel_rfl) (by kernel_rfl) (by kernel_rfl) (fun _ _ _ h => h) (yieldsIf_cell rfl 3 _ rfl ⟨H0, 0, none⟩ rfl (.int .i64 (fn : Int)) _ (fun W' hW' => (hW'.cell (p := ⟨H0, 0, none⟩) hHl hHF).trans c0f) Try.underlying3 rfl) hq0 (hq0.mono (fun _ _ e => .inr e)) ?_
      simp only [Act.put, List.setIfInBounds_toArray, List.set_cons_zero, List.set_cons_succ]
      refine takeW (i := 6) (z := 12) (v := (.pointer (some ⟨T, fn, none⟩))) rfl rfl (by kernel_rfl) (by kernel_rfl) (by kernel_rfl) (by kernel_rfl) (by kernel_rfl) (by kernel_rfl) (fun _ _ _ h => h) (Or.inl ⟨rfl, fun W' _ => by go_simp⟩) hq0 (hq0.mono (fun _ _ e => .inr e)) ?_
      simp only [Act.put, List.setIfInBounds_toArray, List.set_cons_zero, List.set_cons_succ]
      refine takeW (i := 7) (z := 12) (v := _) rfl rfl (by kernel_rfl) (by kernel_rfl) (by kernel_rfl) (by kernel_rfl) (by kernel_rfl) (by kernel_rfl) (fun _ _ _ h => h) (yieldsIf_cell rfl 26 _ rfl ⟨T, fn, none⟩ rfl vf _ (fun W' hW' => (hW'.cell (p := ⟨T, fn, none⟩) hTl hTF).trans cT) Try.underlying26 rfl) hq0 (hq0.mono (fun _ _ e => .inr e)) ?_
      simp only [Act.put, List.setIfInBounds_toArray, List.set_cons_zero, List.set_cons_succ]
      refine takeW (i := 8) (z := 12) (v := _) rfl rfl (by kernel_rfl) (by kernel_rfl) (by kernel_rfl) (by kernel_rfl) (by kernel_rfl) (by kernel_rfl) (fun _ _ _ h => h) (yieldsIf_rowS rfl 47 _ rfl H0 rfl #[.int .i64 h.f, .int .i64 h.t, .int .u32 h.c] _ _ (fun W' hW' => (hW'.heap hHl hHF).trans hH3.out) Try.underlying47 rfl (by kernel_rfl)) hq0 (hq0.mono (fun _ _ e => .inr e)) ?_
      simp only [Act.put, List.setIfInBounds_toArray, List.set_cons_zero, List.set_cons_succ]
      refine runW (i := 9) rfl rfl (by kernel_rfl) (fun _ h => h.mono (fun _ _ e => .inr e)) (fun K hK => ?_)
      refine wp_buildSlice 26 47 1 _ rfl #[.int .i64 h.f, .int .i64 h.t, .int .u32 h.c] i2 (.agg HZ) Try.underlying26 I2.out.1 I2.out.2.1 (by rw [I2.out.2.2.1]; decide) (by rw [I2.out.2.2.1]; decide) (by rw [I2.out.2.2.1, Array.toList_map]; exact hop_b1 _ _ _) ?_
      have hq1 : Mut (fun m => vf.ownBlock = some m) z1 (wd.alloc (.cells #[.int .i64 h.f, .int .i64 h.t, .int .u32 h.c] 47)) := (hqx.alloc _).mut _
      have hxa := hqx.alloc (.cells #[.int .i64 h.f, .int .i64 h.t, .int .u32 h.c] 47)
      have hnw := heap_alloc_new wd (.cells #[.int .i64 h.f, .int .i64 h.t, .int .u32 h.c] 47)
      obtain ⟨wa, hwa⟩ : ∃ W, wd.alloc (.cells #[.int .i64 h.f, .int .i64 h.t, .int .u32 h.c] 47) = W := ⟨_, rfl⟩
      obtain ⟨nb, hnb⟩ : ∃ m, wd.heap.size = m := ⟨_, rfl⟩
      rw [hwa] at hq1 hxa hnw ⊢
      rw [hnb] at hnw ⊢
      have hnz : z1.heap.size ≤ nb := by rw [← hnb]; exact hqx.size
      clear hwa hnb
      refine hK.out _ _ hq1 (fun _ => ?_)
      try simp only [Act.put, List.setIfInBounds_toArray, List.set_cons_zero, List.set_cons_succ]
      clear hK K
      refine runW (i := 10) rfl rfl (by kernel_rfl) (fun _ h => h.mono (fun _ _ e => .inr e)) (fun K hK => ?_)
      refine oper_append_own_at _ _ 26 rfl (T + 1) 47 i2 (.agg HZ) 3 24 Try.underlying26 I2.out.1 I2.out.2.1 I2.out.2.2.1 I2.out.2.2.2 rfl (by decide) vf (leaveF n (L.take k) fn).length (flatH (leaveF n (L.take k) fn)) rfl (own_keep2 HOW.out (fun g hg => hxa.block g (own_lt2 HOW.out hg).2)) ⟨nb, 0, none⟩ 1 1 h.L rfl rfl ?hnews (fun u hu => by
        have hu2 : u = .int .i64 h.f ∨ u = .int .i64 h.t ∨ u = .int .u32 h.c := by simpa [Hp.L] using hu
        rcases hu2 with rfl | rfl | rfl <;> rfl) (by unfold maxLen; omega) (by omega) (by have := heap_lt hnw; omega) ?hfin
      case hnews => exact fun j u hu => World.news_of_block hnw j u (by simpa [Hp.L] using hu)
      case hfin =>
        intro v' w2 ho2 hgb hloc
        have hwl := hxa.size
        have hbl : ∀ m, m < z1.heap.size → vf.ownBlock ≠ some m → w2.heap[m]? = z1.heap[m]? := fun m hm hne => (hgb.block m (by omega) (fun e => hne e.symm)).trans (hxa.block m hm)
        have hq2 : Mut (fun m => vf.ownBlock = some m) z1 w2 := ⟨hgb.os.trans hxa.os, hgb.tape.trans hxa.tape, hgb.output.trans hxa.output, by have := hgb.size; omega, fun m hm hne => hbl m hm hne⟩
        have hTw : w2.heap[T]? = some (.cells vs.toArray 26 (0, 0)) := (hbl T hTl hTF).trans HR1.out.row
        obtain ⟨a9, c9, hv9⟩ := own_form2 ho2
        refine hK.out _ _ hq2 (fun _ => ?_)
        try simp only [Act.put, List.setIfInBounds_toArray, List.set_cons_zero, List.set_cons_succ]
        clear hK K
        refine takeW (i := 11) (z := 12) (v := (.pointer (some ⟨T, fn, none⟩))) rfl rfl (by kernel_rfl) (by kernel_rfl) (by kernel_rfl) (by kernel_rfl) (by kernel_rfl) (by kernel_rfl) (fun _ _ _ h => h) (Or.inl ⟨rfl, fun W' _ => by go_simp⟩) hq2 (hq2.mono (fun _ _ e => .inr e)) ?_
        simp only [Act.put, List.setIfInBounds_toArray, List.set_cons_zero, List.set_cons_succ]
        refine runWl (z := 12) rfl rfl (by kernel_rfl) (fun K hK => ?_)
        refine wp_st_at rfl 26 _ _ rfl T fn _ #[v'] _ (vs.set fn v').toArray _ rfl rfl (by rw [hv9]; rfl) hTw (by show fn + 1 ≤ vs.toArray.size; rw [List.size_toArray, hvl]; exact hfl) (by kernel_rfl) (by rw [hv9]; rfl) (set_row (by rw [hvl]; exact hfl)) (fun w3 hT3 hm3 => ?_)
        have hq3 : Mut (fun m => m = T ∨ vf.ownBlock = some m) z1 w3 := (hq2.mono (fun _ _ e => .inr e)).trans (hm3.mono (fun _ _ e => .inl e))
        refine hK.out _ _ hq3 (fun _ => ?_)
        try simp only [Act.put, List.setIfInBounds_toArray, List.set_cons_zero, List.set_cons_succ]
        clear hK K
        refine wpAnyH_done (by kernel_rfl) ?_ _
        have HPUT := Lib.hid (HR1.out.put (w1 := w2) (w2 := w3) (f := fn) (x := h) (v' := v') hfl ho2 (fun m hm hne => hbl m hm (by rw [← HVF.out]; exact hne)) (by
          rw [HVF.out]
          rcases hloc with e | e
          · exact .inl e
          · exact .inr ⟨_, e, hwl⟩) hT3 (fun m hm hne => hm3.heap hm hne))
        
        have hEE : Ext w w3 := Ext.mutE HE1.out hq3 (fun m hm e => by
          have h0 := HT0.out
          rcases e with e | e
          · omega
          · have := HOF.out m e; omega)
        go_wp2_with fail
        go_roundw
        case rel => exact ⟨k + 1, vs.set fn v', by omega, by go_num, by rw [HV.out]; exact HPUT.out, hEE⟩
        case measure => simp [intOf]; omega
    · obtain rfl : k = L.length := by omega
      have HRE := Lib.hid (show Rows wr (T + 1) T n (leaveF n L) vs by
        have h := HR.out
        rw [List.take_length] at h
        exact h)
      clear HR
      go_wp2_with fail
      go_ret
      exact ⟨T, vs, rfl, by rw [HT0.out]; exact Nat.le_refl _, HRE.out, HE.out⟩

end Go.Proofs.Ytendaloeonbbeaa
