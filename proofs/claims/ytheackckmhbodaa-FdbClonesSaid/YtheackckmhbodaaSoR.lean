/- The library's sort: Sort of at most sixty. No statement is proved here. -/
import Derived.Test.YtheackckmhbodaaSoQ
import Derived.Test.YtheackckmhbodaaSoL
namespace Go.Proofs.Ytheackckmhbodaa
open Go.RowKit Go.BigFrame Go.WideShapes Go.ChangeShapes Go.Deep
set_option linter.unusedVariables false
set_option linter.unusedSimpArgs false
set_option maxRecDepth 100000

theorem nodup_at {l : List Int} {n : Nat} (hl : l.length = n) : (∀ a b, a < n → b < n → at0 l a = at0 l b → a = b) ↔ l.Nodup := by
  subst hl
  have e : ∀ a (h : a < l.length), at0 l a = l[a] := fun a h => by simp [at0, List.getD, h]
  constructor
  · intro h
    refine List.pairwise_iff_getElem.2 fun a b ha hb hab he => ?_
    have := h a b ha hb (by rw [e a ha, e b hb, he])
    omega
  · intro h a b ha hb hab
    rw [e a ha, e b hb] at hab
    have hp := List.pairwise_iff_getElem.1 h
    rcases Nat.lt_trichotomy a b with h | h | h
    · exact absurd hab (hp a b ha hb h)
    · exact h
    · exact absurd hab.symm (hp b a hb ha h)
theorem like_of_perm {l0 l : List Int} {n : Nat} (h0 : l0.length = n) (hl : l.length = n) (hd : ∀ a b, a < n → b < n → at0 l0 a = at0 l0 b → a = b) (hp : Go.Sort.PermIn 0 n l0.toArray l.toArray) : Like n l0 l := by
  have e1 : (l.toArray.extract 0 n).toList = l := by simp [← hl]
  have e0 : (l0.toArray.extract 0 n).toList = l0 := by simp [← h0]
  have hpp : l.Perm l0 := by
    have := hp.2.2
    rw [e1, e0] at this
    exact this
  refine ⟨hl, (nodup_at hl).2 (hpp.nodup_iff.2 ((nodup_at h0).1 hd)), fun x => ?_⟩
  rw [← hl, ← mem_at, hl, ← h0, ← mem_at]
  exact hpp.mem_iff
theorem rise_of_sorted {l : List Int} {n : Nat} (hl : l.length = n) (hs : Go.Sort.SortedIn ltI 0 n l.toArray) : Rise l n := fun a b hab hb => by
  have h := hs a b (Nat.zero_le _) hab hb
  rw [arr_at l (by omega), arr_at l (by omega)] at h
  have h2 : decide (at0 l b < at0 l a) = false := h
  have := of_decide_eq_false h2
  omega
set_option maxRecDepth 100000 in
set_option maxHeartbeats 2000000 in
theorem sortx_any (w : World) (g n cap : Nat) (l0 : List Int) (hn : n ≤ 60) (h : Nums w g l0) (hl : l0.length = n) (hd : ∀ a b, a < n → b < n → at0 l0 a = at0 l0 b → a = b) :
    Calls Try.prog 36 #[.slice (some ⟨g, 0, none⟩) n cap] w fun e w' => e = .returned (.tuple #[]) ∧ OutP w g n n l0 w' := by
  have HI := Lib.hid (pdqx_any g n cap hn (n - 0) w l0 0 n (Go.Sort.bitsLen n) rfl (Nat.le_refl _) (Nat.zero_le _) (Or.inl rfl) (len_6 hn) h hl)
  have HD := Lib.hid hd
  have hw : IntKind.u64.wrap (n : Int) = n := by rw [IntKind.wrap_u64]; omega
  clear h hd
  go_enter Try.func36, Try.ntmps36
  go_wp2_with fail
  refine (lenx_any n hn _).mono ?_
  rintro e w1 ⟨rfl, rfl⟩
  go_wp2_with fail
  refine HI.out.mono ?_
  rintro e w2 ⟨rfl, l, hnu, hln, ⟨hp, hs⟩, hmu⟩
  have HO := Lib.hid (show OutP w1 g n n l0 w2 from ⟨l, hnu, like_of_perm hl hln HD.out hp, rise_of_sorted hln hs, hmu⟩)
  clear hnu hp hs hmu
  go_wp2_with fail
  go_end0
  exact ⟨rfl, HO.out⟩

end Go.Proofs.Ytheackckmhbodaa
