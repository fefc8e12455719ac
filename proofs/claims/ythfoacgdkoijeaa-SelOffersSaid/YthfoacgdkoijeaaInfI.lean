/- The machine of information: plain facts of its function that the laws want. No statement is proved here. -/
import Derived.Test.YthfoacgdkoijeaaInfH
import Derived.Test.YthfoacgdkoijeaaBrO
namespace Go.Proofs.Ythfoacgdkoijeaa
open Go.RowKit Go.BigFrame Go.WideShapes Go.ChangeShapes Go.Deep
set_option linter.unusedVariables false
set_option linter.unusedSimpArgs false

theorem range_cons {w : World} {b o : Nat} {v : Value} {l : List Value} (h0 : w.cell? ⟨b, o, none⟩ = some v) (h : w.rangeAt b (o + 1) l) : w.rangeAt b o (v :: l) := fun j u hu => by
  cases j with
  | zero => obtain rfl : v = u := by simpa using hu
            exact h0
  | succ j =>
    rw [show o + (j + 1) = o + 1 + j by omega]
    exact h j u (by simpa using hu)
theorem range_nil {w : World} {b o : Nat} : w.rangeAt b o [] := fun j u hu => by simp at hu
theorem size_vec : (Try.prog.info? 28).map (·.size) = some 5 := by kernel_rfl
theorem size_times : (Try.prog.info? 24).map (·.size) = some 4 := by kernel_rfl
theorem size_clocks : (Try.prog.info? 43).map (·.size) = some 9 := by kernel_rfl
theorem pI_set_ne {L : List Value} {i j : Nat} {v : Value} (h : i ≠ j) : pI (L.set i v) j = pI L j := by unfold pI; rw [get_ne h]
theorem pB_set_ne {L : List Value} {i j : Nat} {v : Value} (h : i ≠ j) : pB (L.set i v) j = pB L j := by unfold pB; rw [get_ne h]
theorem pI_set_same {L : List Value} {j : Nat} {K : IntKind} {z : Int} (h : j < L.length) : pI (L.set j (.int K z)) j = z := by unfold pI; simp [h]
theorem pB_set_same {L : List Value} {j : Nat} {z : Bool} (h : j < L.length) : pB (L.set j (.bool z)) j = z := by unfold pB; simp [h]
theorem np_setPort (B : Br) (k : Nat) (l : List Value) : (B.setPort k l).np = B.np := rfl
theorem infF_do {Z : Br} {k : Nat} {L L2 : List Value} {d : Bool} (hp : port Z.ps k = L) (h : infL (Z.hb 1) L = (d, L2)) : infF Z k = (d, Z.setPort k L2) := by
  unfold infF
  rw [hp, h]
theorem infF_no {Z : Br} {k : Nat} {L : List Value} (hp : port Z.ps k = L) (hk : k * 89 + 89 ≤ Z.ps.length) (h : irowL L = 0) : infF Z k = (false, Z) := by
  rw [infF_do hp (show infL (Z.hb 1) L = (false, L) by unfold infL; rw [h]; rfl), ← hp, setPort_self hk]
theorem tim_set {L : List Value} {j : Nat} {v : Value} (hR : TimR L) (h : j < 64 ∨ 67 < j) : TimR (L.set j v) := by
  unfold TimR at hR ⊢
  rw [pI_set_ne (by omega), pI_set_ne (by omega), pI_set_ne (by omega), pI_set_ne (by omega)]
  exact hR
theorem tim_of {B : Br} (h : RightP B) {k : Nat} (hk : k < B.np) : TimR (port B.ps k) := tim_port (h.2 k hk).2.2.2
theorem len_iask {L : List Value} : (iask L).length = L.length := by unfold iask; simp
theorem len_idis {L : List Value} : (idis L).length = L.length := by unfold idis; simp [len_iask]
theorem len_iage {L : List Value} : (iage L).length = L.length := by unfold iage; simp [len_iask]
/-! ### Who isn't enabled has nothing -/
theorem dn_row {L : List Value} (h2 : pB L 2 = false) (h86 : pI L 86 ≠ 0) : irowL L = 1 := by unfold irowL irowB; simp [h2, h86]
theorem dn_no {L : List Value} (hl : L.length = 89) (h2 : pB L 2 = false) : irowL (idis L) = 0 := by
  unfold irowL irowB idis iask; simp [pI_set_ne, pB_set_ne, pI_set_same, pB_set_same, hl, h2]
theorem dn_do {r : Bool} {L : List Value} (h2 : pB L 2 = false) (h86 : pI L 86 ≠ 0) : infL r L = (true, idis L) := by unfold infL; rw [dn_row h2 h86]; rfl
theorem dn_86 {L : List Value} (hl : L.length = 89) : pI (idis L) 86 = 0 := by unfold idis iask; simp [pI_set_ne, pB_set_ne, pI_set_same, pB_set_same, hl]
theorem dn_18 {L : List Value} (hl : L.length = 89) : pI (idis L) 18 = 0 := by unfold idis iask; simp [pI_set_ne, pB_set_ne, pI_set_same, pB_set_same, hl]
theorem dn_11 {L : List Value} (hl : L.length = 89) : pI (idis L) 11 = 0 := by unfold idis iask; simp [pI_set_ne, pB_set_ne, pI_set_same, pB_set_same, hl]
theorem dn_36 {L : List Value} (hl : L.length = 89) : pB (idis L) 36 = false := by unfold idis iask; simp [pI_set_ne, pB_set_ne, pI_set_same, pB_set_same, hl]
theorem dn_33 {L : List Value} (hl : L.length = 89) : pB (idis L) 33 = false := by unfold idis iask; simp [pI_set_ne, pB_set_ne, pI_set_same, pB_set_same, hl]
theorem dn_34 {L : List Value} (hl : L.length = 89) : pB (idis L) 34 = false := by unfold idis iask; simp [pI_set_ne, pB_set_ne, pI_set_same, pB_set_same, hl]
theorem dn_22 {L : List Value} (hl : L.length = 89) : pB (idis L) 22 = false := by unfold idis iask; simp [pI_set_ne, pB_set_ne, pI_set_same, pB_set_same, hl]
theorem dn_23 {L : List Value} (hl : L.length = 89) : pB (idis L) 23 = false := by unfold idis iask; simp [pI_set_ne, pB_set_ne, pI_set_same, pB_set_same, hl]
theorem dn_43 {L : List Value} (hl : L.length = 89) : pB (idis L) 43 = true := by unfold idis iask; simp [pI_set_ne, pB_set_ne, pI_set_same, pB_set_same, hl]
theorem dn_44 {L : List Value} (hl : L.length = 89) : pB (idis L) 44 = false := by unfold idis iask; simp [pI_set_ne, pB_set_ne, pI_set_same, pB_set_same, hl]
theorem tim_dis {L : List Value} (hR : TimR L) : TimR (idis L) := by
  unfold idis iask
  repeat' first | refine tim_set ?_ (by decide) | exact hR
theorem tim_age {L : List Value} (hR : TimR L) : TimR (iage L) := by
  unfold iage iask
  repeat' first | refine tim_set ?_ (by decide) | exact hR
def dnL (z : Bool) (B : Br) (k : Nat) : Br := match z with | true => (B.setp k 2 (.bool false)).setp k 86 (.int .i64 2) | false => B.setp k 2 (.bool false)
def dnP (z : Bool) (B : Br) (k : Nat) : List Value := match z with | true => ((port B.ps k).set 2 (.bool false)).set 86 (.int .i64 2) | false => (port B.ps k).set 2 (.bool false)
theorem dnP_len {z : Bool} {B : Br} {k : Nat} (h : k * 89 + 89 ≤ B.ps.length) : (dnP z B k).length = 89 := by cases z <;> simp [dnP, port_len h]
theorem dnP_port {z : Bool} {B : Br} {k : Nat} : port (dnL z B k).ps k = dnP z B k := by
  cases z
  · exact port_setp (by decide)
  · exact (port_setp (by decide)).trans (by rw [port_setp (by decide)]; rfl)
theorem dnL_len {z : Bool} {B : Br} {k : Nat} (h : k * 89 + 89 ≤ B.ps.length) : k * 89 + 89 ≤ (dnL z B k).ps.length := by cases z <;> simpa [dnL] using h
theorem dnL_np {z : Bool} {B : Br} {k : Nat} : (dnL z B k).np = B.np := by cases z <;> rfl
theorem dnL_ok {z : Bool} {B : Br} {k : Nat} (ho : B.ok) (hk : k < B.np) : (dnL z B k).ok := by
  cases z
  · exact ho.setB hk 2 false rfl
  · exact (ho.setB hk 2 false rfl).setI (k := k) hk 86 .i64 2 rfl (by decide)
def dnZ (z : Bool) (B : Br) (k : Nat) : Br := (dnL z B k).setPort k (idis (dnP z B k))
theorem dn_step1 {z : Bool} {B : Br} {k : Nat} (h : k * 89 + 89 ≤ B.ps.length) (hz : (B.gi k 86 == 0) = z) : infF (dnL z B k) k = (true, dnZ z B k) := by
  have hl := port_len h
  refine infF_do dnP_port (dn_do ?_ ?_)
  · cases z <;> simp [dnP, pB_set_ne, pB_set_same, hl]
  · cases z
    · simp [dnP, pI_set_ne, pI_port]
      simpa using hz
    · simp [dnP, pI_set_same, hl]
theorem dnZ_port {z : Bool} {B : Br} {k : Nat} (h : k * 89 + 89 ≤ B.ps.length) : port (dnZ z B k).ps k = idis (dnP z B k) := port_setPort (len_idis.trans (dnP_len h)) (dnL_len h)
theorem dnZ_np {z : Bool} {B : Br} {k : Nat} : (dnZ z B k).np = B.np := dnL_np
theorem dn_step2 {z : Bool} {B : Br} {k : Nat} (h : k * 89 + 89 ≤ B.ps.length) : infF (dnZ z B k) k = (false, dnZ z B k) := by
  have hl := port_len h
  refine infF_no (dnZ_port h) ?_ (dn_no (dnP_len h) ?_)
  · unfold dnZ
    rw [len_setPort (len_idis.trans (dnP_len h)) (dnL_len h)]
    exact dnL_len h
  · cases z <;> simp [dnP, pB_set_ne, pB_set_same, hl]
theorem dn_tim {z : Bool} {B : Br} {k : Nat} (h : TimR (port B.ps k)) : TimR (port (dnL z B k).ps k) := by
  rw [dnP_port]
  cases z
  · exact tim_set h (by decide)
  · exact tim_set (tim_set h (by decide)) (by decide)
theorem dnZ_tim {z : Bool} {B : Br} {k : Nat} (h : TimR (port B.ps k)) (h89 : k * 89 + 89 ≤ B.ps.length) : TimR (port (dnZ z B k).ps k) := by
  rw [dnZ_port h89]
  have := dn_tim (z := z) h
  rw [dnP_port] at this
  exact tim_dis this
theorem dnZ_86 {z : Bool} {B : Br} {k : Nat} (h : k * 89 + 89 ≤ B.ps.length) : (dnZ z B k).gi k 86 = 0 := by rw [← pI_port (by decide), dnZ_port h]; exact dn_86 (dnP_len h)
theorem dnZ_18 {z : Bool} {B : Br} {k : Nat} (h : k * 89 + 89 ≤ B.ps.length) : (dnZ z B k).gi k 18 = 0 := by rw [← pI_port (by decide), dnZ_port h]; exact dn_18 (dnP_len h)
theorem dnZ_11 {z : Bool} {B : Br} {k : Nat} (h : k * 89 + 89 ≤ B.ps.length) : (dnZ z B k).gi k 11 = 0 := by rw [← pI_port (by decide), dnZ_port h]; exact dn_11 (dnP_len h)
theorem dnZ_36 {z : Bool} {B : Br} {k : Nat} (h : k * 89 + 89 ≤ B.ps.length) : (dnZ z B k).gb k 36 = false := by rw [← pB_port (by decide), dnZ_port h]; exact dn_36 (dnP_len h)
theorem dnZ_33 {z : Bool} {B : Br} {k : Nat} (h : k * 89 + 89 ≤ B.ps.length) : (dnZ z B k).gb k 33 = false := by rw [← pB_port (by decide), dnZ_port h]; exact dn_33 (dnP_len h)
theorem dnZ_34 {z : Bool} {B : Br} {k : Nat} (h : k * 89 + 89 ≤ B.ps.length) : (dnZ z B k).gb k 34 = false := by rw [← pB_port (by decide), dnZ_port h]; exact dn_34 (dnP_len h)
theorem dnZ_22 {z : Bool} {B : Br} {k : Nat} (h : k * 89 + 89 ≤ B.ps.length) : (dnZ z B k).gb k 22 = false := by rw [← pB_port (by decide), dnZ_port h]; exact dn_22 (dnP_len h)
theorem dnZ_23 {z : Bool} {B : Br} {k : Nat} (h : k * 89 + 89 ≤ B.ps.length) : (dnZ z B k).gb k 23 = false := by rw [← pB_port (by decide), dnZ_port h]; exact dn_23 (dnP_len h)
theorem dnZ_43 {z : Bool} {B : Br} {k : Nat} (h : k * 89 + 89 ≤ B.ps.length) : (dnZ z B k).gb k 43 = true := by rw [← pB_port (by decide), dnZ_port h]; exact dn_43 (dnP_len h)
theorem dnZ_44 {z : Bool} {B : Br} {k : Nat} (h : k * 89 + 89 ≤ B.ps.length) : (dnZ z B k).gb k 44 = false := by rw [← pB_port (by decide), dnZ_port h]; exact dn_44 (dnP_len h)
theorem setL_cons {L vs : List Value} {v : Value} {j : Nat} (h : j + vs.length + 1 ≤ L.length) : setL L j (v :: vs) = setL (L.set j v) (j + 1) vs := by
  apply List.ext_getElem?
  intro i
  rw [setL_at (by simp; omega), setL_at (by simp; omega), List.getElem?_set]
  by_cases e : j = i
  · subst e
    rw [if_pos (by simp), if_neg (by omega), if_pos rfl, if_pos (by omega)]
    simp
  · by_cases h2 : j < i ∧ i < j + (vs.length + 1)
    · rw [if_pos (by simp; omega), if_pos (by omega)]
      have : i - j = (i - (j + 1)) + 1 := by omega
      rw [this, List.getElem?_cons_succ]
    · rw [if_neg (by simp; omega), if_neg (by omega), if_neg e]
theorem setL_nil {L : List Value} {j : Nat} : setL L j [] = L := by unfold setL; simp
theorem setL5 {L : List Value} (hl : L.length = 89) (a b c d e : Value) : setL L 68 [a, b, c, d, e] = ((((L.set 68 a).set 69 b).set 70 c).set 71 d).set 72 e := by
  rw [setL_cons (by simp [hl]), setL_cons (by simp [hl]), setL_cons (by simp [hl]), setL_cons (by simp [hl]), setL_cons (by simp [hl]), setL_nil]
theorem setL4 {L : List Value} (hl : L.length = 89) (a b c d : Value) : setL L 78 [a, b, c, d] = (((L.set 78 a).set 79 b).set 80 c).set 81 d := by
  rw [setL_cons (by simp [hl]), setL_cons (by simp [hl]), setL_cons (by simp [hl]), setL_cons (by simp [hl]), setL_nil]
theorem iupd_sets {L : List Value} (hl : L.length = 89) (v23 v47 : Bool) (a b c d e a1 b1 c1 d1 : Value) : iupd2 v23 v47 [a, b, c, d, e] [a1, b1, c1, d1] L = (((((((((((((((((L.set 34 (.bool false)).set 33 (.bool false)).set 23 (.bool v23)).set 47 (.bool v47)).set 68 a).set 69 b).set 70 c).set 71 d).set 72 e).set 78 a1).set 79 b1).set 80 c1).set 81 d1).set 50 (.bool false)).set 86 (.int .i64 2)).set 31 (.bool true)).set 18 (.int .i64 2)) := by
  unfold iupd2
  rw [setL5 (by simp [hl]), setL4 (by simp [hl])]
/-! ### What was heard counts no longer than it is kept -/
theorem tim_upd {L : List Value} (hl : L.length = 89) (hR : TimR L) : TimR (iupdL L) := by
  unfold iupdL iupd
  rw [iupd_sets hl]
  iterate 17 refine tim_set ?_ (by decide)
  exact hR
def ag0 (B : Br) (k : Nat) : Br := ((((((B.setp k 2 (.bool true)).setp k 18 (.int .i64 2)).setp k 86 (.int .i64 3)).setp k 11 (.int .i64 0)).setp k 36 (.bool false)).setp k 50 (.bool false))
def ag0P (B : Br) (k : Nat) : List Value := (((((((port B.ps k).set 2 (.bool true)).set 18 (.int .i64 2)).set 86 (.int .i64 3)).set 11 (.int .i64 0)).set 36 (.bool false)).set 50 (.bool false))
theorem ag0_np {B : Br} {k : Nat} : (ag0 B k).np = B.np := rfl
theorem ag0_port {B : Br} {k : Nat} (h : k * 89 + 89 ≤ B.ps.length) : port (ag0 B k).ps k = (ag0P B k) := by
  unfold ag0 ag0P
  rw [port_setp (by decide), port_setp (by decide), port_setp (by decide), port_setp (by decide), port_setp (by decide), port_setp (by decide)]
theorem ag0_plen {B : Br} {k : Nat} (h : k * 89 + 89 ≤ B.ps.length) : (ag0P B k).length = 89 := by unfold ag0P; simp only [List.length_set]; exact port_len h
theorem ag0_len {B : Br} {k : Nat} (h : k * 89 + 89 ≤ B.ps.length) : k * 89 + 89 ≤ (ag0 B k).ps.length := by unfold ag0; simp only [len_setp]; exact h
theorem ag0_ok {B : Br} {k : Nat} (ho : B.ok) (hk : k < B.np) : (ag0 B k).ok := (Br.ok.setB (Br.ok.setB (Br.ok.setI (Br.ok.setI (Br.ok.setI (Br.ok.setB ho (k := k) hk 2 true rfl) (k := k) hk 18 .i64 2 rfl (by decide)) (k := k) hk 86 .i64 3 rfl (by decide)) (k := k) hk 11 .i64 0 rfl (by decide)) (k := k) hk 36 false rfl) (k := k) hk 50 false rfl)
theorem ag0_tim {B : Br} {k : Nat} (h : k * 89 + 89 ≤ B.ps.length) (hR : TimR (port B.ps k)) : TimR (port (ag0 B k).ps k) := by rw [ag0_port h]; exact (tim_set (tim_set (tim_set (tim_set (tim_set (tim_set hR (by decide)) (by decide)) (by decide)) (by decide)) (by decide)) (by decide))
def ag1P (B : Br) (k : Nat) : List Value := iage (ag0P B k)
def ag1 (B : Br) (k : Nat) : Br := Br.setPort (ag0 B k) k (ag1P B k)
theorem ag1_np {B : Br} {k : Nat} : (ag1 B k).np = B.np := by unfold ag1; rw [np_setPort]; exact ag0_np
theorem ag1_plen {B : Br} {k : Nat} (h : k * 89 + 89 ≤ B.ps.length) : (ag1P B k).length = 89 := by unfold ag1P; rw [len_iage]; exact ag0_plen h
theorem ag1_port {B : Br} {k : Nat} (h : k * 89 + 89 ≤ B.ps.length) : port (ag1 B k).ps k = (ag1P B k) := port_setPort (ag1_plen h) (ag0_len h)
theorem ag1_len {B : Br} {k : Nat} (h : k * 89 + 89 ≤ B.ps.length) : k * 89 + 89 ≤ (ag1 B k).ps.length := by unfold ag1; rw [len_setPort (ag1_plen h) (ag0_len h)]; exact ag0_len h
theorem ag1_tim {B : Br} {k : Nat} (h : k * 89 + 89 ≤ B.ps.length) (hR : TimR (port B.ps k)) : TimR (port (ag1 B k).ps k) := by
  rw [ag1_port h]
  have := ag0_tim h hR
  rw [ag0_port h] at this
  exact tim_age this
theorem ag1_row {B : Br} {k : Nat} (h : k * 89 + 89 ≤ B.ps.length) : irowL (ag0P B k) = 2 := by
  have hl := port_len h
  unfold irowL irowB ag0P; simp [pI_set_ne, pB_set_ne, pI_set_same, pB_set_same, hl]
theorem ag1_step {B : Br} {k : Nat} (h : k * 89 + 89 ≤ B.ps.length) : infF (ag0 B k) k = (true, (ag1 B k)) := infF_do (ag0_port h) (by unfold infL; rw [ag1_row h ]; rfl)
theorem ag1_86 {B : Br} {k : Nat} (h : k * 89 + 89 ≤ B.ps.length) : (ag1 B k).gi k 86 = 1 := by
  rw [← pI_port (by decide), ag1_port h]
  have hl := port_len h
  unfold ag1P ag0P iage iask; simp [pI_set_ne, pB_set_ne, pI_set_same, pB_set_same, hl]
theorem ag1_43 {B : Br} {k : Nat} (h : k * 89 + 89 ≤ B.ps.length) : (ag1 B k).gb k 43 = true := by
  rw [← pB_port (by decide), ag1_port h]
  have hl := port_len h
  unfold ag1P ag0P iage iask; simp [pI_set_ne, pB_set_ne, pI_set_same, pB_set_same, hl]
theorem ag1_44 {B : Br} {k : Nat} (h : k * 89 + 89 ≤ B.ps.length) : (ag1 B k).gb k 44 = false := by
  rw [← pB_port (by decide), ag1_port h]
  have hl := port_len h
  unfold ag1P ag0P iage iask; simp [pI_set_ne, pB_set_ne, pI_set_same, pB_set_same, hl]
theorem ag1_18 {B : Br} {k : Nat} (h : k * 89 + 89 ≤ B.ps.length) : (ag1 B k).gi k 18 = 1 := by
  rw [← pI_port (by decide), ag1_port h]
  have hl := port_len h
  unfold ag1P ag0P iage iask; simp [pI_set_ne, pB_set_ne, pI_set_same, pB_set_same, hl]
theorem ag1_68 {B : Br} {k : Nat} (h : k * 89 + 89 ≤ B.ps.length) : (ag1 B k).gi k 68 = B.gi k 68 := by
  rw [← pI_port (by decide), ag1_port h]
  have hl := port_len h
  unfold ag1P ag0P iage iask; simp [pI_set_ne, pB_set_ne, pI_set_same, pB_set_same, hl, pI_port]
theorem ag1_69 {B : Br} {k : Nat} (h : k * 89 + 89 ≤ B.ps.length) : (ag1 B k).gi k 69 = B.gi k 69 := by
  rw [← pI_port (by decide), ag1_port h]
  have hl := port_len h
  unfold ag1P ag0P iage iask; simp [pI_set_ne, pB_set_ne, pI_set_same, pB_set_same, hl, pI_port]
theorem ag1_70 {B : Br} {k : Nat} (h : k * 89 + 89 ≤ B.ps.length) : (ag1 B k).gi k 70 = B.gi k 70 := by
  rw [← pI_port (by decide), ag1_port h]
  have hl := port_len h
  unfold ag1P ag0P iage iask; simp [pI_set_ne, pB_set_ne, pI_set_same, pB_set_same, hl, pI_port]
theorem ag1_71 {B : Br} {k : Nat} (h : k * 89 + 89 ≤ B.ps.length) : (ag1 B k).gi k 71 = B.gi k 71 := by
  rw [← pI_port (by decide), ag1_port h]
  have hl := port_len h
  unfold ag1P ag0P iage iask; simp [pI_set_ne, pB_set_ne, pI_set_same, pB_set_same, hl, pI_port]
theorem ag1_72 {B : Br} {k : Nat} (h : k * 89 + 89 ≤ B.ps.length) : (ag1 B k).gi k 72 = B.gi k 72 := by
  rw [← pI_port (by decide), ag1_port h]
  have hl := port_len h
  unfold ag1P ag0P iage iask; simp [pI_set_ne, pB_set_ne, pI_set_same, pB_set_same, hl, pI_port]
def ag2 (B : Br) (k : Nat) : Br := (((ag1 B k).setp k 44 (.bool true)).setp k 50 (.bool true))
def ag2P (B : Br) (k : Nat) : List Value := (((ag1P B k).set 44 (.bool true)).set 50 (.bool true))
theorem ag2_np {B : Br} {k : Nat} : (ag2 B k).np = B.np := by unfold ag2; simp only [np_setp]; exact ag1_np
theorem ag2_port {B : Br} {k : Nat} (h : k * 89 + 89 ≤ B.ps.length) : port (ag2 B k).ps k = (ag2P B k) := by
  unfold ag2 ag2P
  rw [port_setp (by decide), port_setp (by decide)]
  rw [ag1_port h]
theorem ag2_plen {B : Br} {k : Nat} (h : k * 89 + 89 ≤ B.ps.length) : (ag2P B k).length = 89 := by unfold ag2P; simp only [List.length_set]; exact ag1_plen h
theorem ag2_len {B : Br} {k : Nat} (h : k * 89 + 89 ≤ B.ps.length) : k * 89 + 89 ≤ (ag2 B k).ps.length := by unfold ag2; simp only [len_setp]; exact ag1_len h
theorem ag2_ok {B : Br} {k : Nat} (ho : Br.ok (ag1 B k)) (hk : k < B.np) : (ag2 B k).ok := (Br.ok.setB (Br.ok.setB ho (k := k) (show k < Br.np (ag1 B k) by rw [ag1_np]; exact hk) 44 true rfl) (k := k) (show k < Br.np (ag1 B k) by rw [ag1_np]; exact hk) 50 true rfl)
theorem ag2_tim {B : Br} {k : Nat} (h : k * 89 + 89 ≤ B.ps.length) (hR : TimR (port B.ps k)) : TimR (port (ag2 B k).ps k) := by rw [ag2_port h]; exact (tim_set (tim_set (by have := ag1_tim h hR; rw [ag1_port h] at this; exact this) (by decide)) (by decide))
def ag3P (B : Br) (k : Nat) : List Value := iupdL (ag2P B k)
def ag3 (B : Br) (k : Nat) : Br := Br.setPort (ag2 B k) k (ag3P B k)
theorem ag3_np {B : Br} {k : Nat} : (ag3 B k).np = B.np := by unfold ag3; rw [np_setPort]; exact ag2_np
theorem ag3_plen {B : Br} {k : Nat} (h : k * 89 + 89 ≤ B.ps.length) : (ag3P B k).length = 89 := by unfold ag3P; unfold iupdL iupd; rw [iupd_sets (ag2_plen h)]; simp only [List.length_set]; exact ag2_plen h
theorem ag3_port {B : Br} {k : Nat} (h : k * 89 + 89 ≤ B.ps.length) : port (ag3 B k).ps k = (ag3P B k) := port_setPort (ag3_plen h) (ag2_len h)
theorem ag3_len {B : Br} {k : Nat} (h : k * 89 + 89 ≤ B.ps.length) : k * 89 + 89 ≤ (ag3 B k).ps.length := by unfold ag3; rw [len_setPort (ag3_plen h) (ag2_len h)]; exact ag2_len h
theorem ag3_tim {B : Br} {k : Nat} (h : k * 89 + 89 ≤ B.ps.length) (hR : TimR (port B.ps k)) : TimR (port (ag3 B k).ps k) := by
  rw [ag3_port h]
  have := ag2_tim h hR
  rw [ag2_port h] at this
  exact tim_upd (ag2_plen h) this
theorem ag3_row {B : Br} {k : Nat} (h : k * 89 + 89 ≤ B.ps.length) : irowL (ag2P B k) = 3 := by
  have hl := port_len h
  unfold irowL irowB ag2P ag1P ag0P iage iask; simp [pI_set_ne, pB_set_ne, pI_set_same, pB_set_same, hl]
theorem ag3_step {B : Br} {k : Nat} (h : k * 89 + 89 ≤ B.ps.length) : infF (ag2 B k) k = (true, (ag3 B k)) := infF_do (ag2_port h) (by unfold infL; rw [ag3_row h ]; rfl)
theorem ag3_86 {B : Br} {k : Nat} (h : k * 89 + 89 ≤ B.ps.length) : (ag3 B k).gi k 86 = 2 := by
  rw [← pI_port (by decide), ag3_port h]
  have hl := port_len h
  unfold ag3P iupdL iupd
  rw [iupd_sets (ag2_plen h)]
  have hl2 := ag2_plen h
  unfold ag2P ag1P ag0P iage iask at *; simp [pI_set_ne, pB_set_ne, pI_set_same, pB_set_same, hl, hl2, pI_port]
theorem ag3_31 {B : Br} {k : Nat} (h : k * 89 + 89 ≤ B.ps.length) : (ag3 B k).gb k 31 = true := by
  rw [← pB_port (by decide), ag3_port h]
  have hl := port_len h
  unfold ag3P iupdL iupd
  rw [iupd_sets (ag2_plen h)]
  have hl2 := ag2_plen h
  unfold ag2P ag1P ag0P iage iask at *; simp [pI_set_ne, pB_set_ne, pI_set_same, pB_set_same, hl, hl2, pI_port]
theorem ag3_50 {B : Br} {k : Nat} (h : k * 89 + 89 ≤ B.ps.length) : (ag3 B k).gb k 50 = false := by
  rw [← pB_port (by decide), ag3_port h]
  have hl := port_len h
  unfold ag3P iupdL iupd
  rw [iupd_sets (ag2_plen h)]
  have hl2 := ag2_plen h
  unfold ag2P ag1P ag0P iage iask at *; simp [pI_set_ne, pB_set_ne, pI_set_same, pB_set_same, hl, hl2, pI_port]
theorem ag3_23 {B : Br} {k : Nat} (h : k * 89 + 89 ≤ B.ps.length) : (ag3 B k).gb k 23 = false := by
  rw [← pB_port (by decide), ag3_port h]
  have hl := port_len h
  unfold ag3P iupdL iupd
  rw [iupd_sets (ag2_plen h)]
  have hl2 := ag2_plen h
  unfold ag2P ag1P ag0P iage iask at *; simp [pI_set_ne, pB_set_ne, pI_set_same, pB_set_same, hl, hl2, pI_port]
theorem ag3_68 {B : Br} {k : Nat} (h : k * 89 + 89 ≤ B.ps.length) : (ag3 B k).gi k 68 = B.gi k 73 := by
  rw [← pI_port (by decide), ag3_port h]
  have hl := port_len h
  unfold ag3P iupdL iupd
  rw [iupd_sets (ag2_plen h)]
  have hl2 := ag2_plen h
  unfold ag2P ag1P ag0P iage iask at *; simp [pI_set_ne, pB_set_ne, pI_set_same, pB_set_same, hl, hl2, pI_port]
theorem ag3_69 {B : Br} {k : Nat} (h : k * 89 + 89 ≤ B.ps.length) : (ag3 B k).gi k 69 = B.gi k 74 := by
  rw [← pI_port (by decide), ag3_port h]
  have hl := port_len h
  unfold ag3P iupdL iupd
  rw [iupd_sets (ag2_plen h)]
  have hl2 := ag2_plen h
  unfold ag2P ag1P ag0P iage iask at *; simp [pI_set_ne, pB_set_ne, pI_set_same, pB_set_same, hl, hl2, pI_port]
theorem ag3_70 {B : Br} {k : Nat} (h : k * 89 + 89 ≤ B.ps.length) : (ag3 B k).gi k 70 = B.gi k 75 := by
  rw [← pI_port (by decide), ag3_port h]
  have hl := port_len h
  unfold ag3P iupdL iupd
  rw [iupd_sets (ag2_plen h)]
  have hl2 := ag2_plen h
  unfold ag2P ag1P ag0P iage iask at *; simp [pI_set_ne, pB_set_ne, pI_set_same, pB_set_same, hl, hl2, pI_port]
theorem ag3_71 {B : Br} {k : Nat} (h : k * 89 + 89 ≤ B.ps.length) : (ag3 B k).gi k 71 = B.gi k 76 := by
  rw [← pI_port (by decide), ag3_port h]
  have hl := port_len h
  unfold ag3P iupdL iupd
  rw [iupd_sets (ag2_plen h)]
  have hl2 := ag2_plen h
  unfold ag2P ag1P ag0P iage iask at *; simp [pI_set_ne, pB_set_ne, pI_set_same, pB_set_same, hl, hl2, pI_port]
theorem ag3_72 {B : Br} {k : Nat} (h : k * 89 + 89 ≤ B.ps.length) : (ag3 B k).gi k 72 = B.gi k 77 := by
  rw [← pI_port (by decide), ag3_port h]
  have hl := port_len h
  unfold ag3P iupdL iupd
  rw [iupd_sets (ag2_plen h)]
  have hl2 := ag2_plen h
  unfold ag2P ag1P ag0P iage iask at *; simp [pI_set_ne, pB_set_ne, pI_set_same, pB_set_same, hl, hl2, pI_port]
theorem ag3_73 {B : Br} {k : Nat} (h : k * 89 + 89 ≤ B.ps.length) : (ag3 B k).gi k 73 = B.gi k 73 := by
  rw [← pI_port (by decide), ag3_port h]
  have hl := port_len h
  unfold ag3P iupdL iupd
  rw [iupd_sets (ag2_plen h)]
  have hl2 := ag2_plen h
  unfold ag2P ag1P ag0P iage iask at *; simp [pI_set_ne, pB_set_ne, pI_set_same, pB_set_same, hl, hl2, pI_port]
theorem ag3_74 {B : Br} {k : Nat} (h : k * 89 + 89 ≤ B.ps.length) : (ag3 B k).gi k 74 = B.gi k 74 := by
  rw [← pI_port (by decide), ag3_port h]
  have hl := port_len h
  unfold ag3P iupdL iupd
  rw [iupd_sets (ag2_plen h)]
  have hl2 := ag2_plen h
  unfold ag2P ag1P ag0P iage iask at *; simp [pI_set_ne, pB_set_ne, pI_set_same, pB_set_same, hl, hl2, pI_port]
theorem ag3_75 {B : Br} {k : Nat} (h : k * 89 + 89 ≤ B.ps.length) : (ag3 B k).gi k 75 = B.gi k 75 := by
  rw [← pI_port (by decide), ag3_port h]
  have hl := port_len h
  unfold ag3P iupdL iupd
  rw [iupd_sets (ag2_plen h)]
  have hl2 := ag2_plen h
  unfold ag2P ag1P ag0P iage iask at *; simp [pI_set_ne, pB_set_ne, pI_set_same, pB_set_same, hl, hl2, pI_port]
theorem ag3_76 {B : Br} {k : Nat} (h : k * 89 + 89 ≤ B.ps.length) : (ag3 B k).gi k 76 = B.gi k 76 := by
  rw [← pI_port (by decide), ag3_port h]
  have hl := port_len h
  unfold ag3P iupdL iupd
  rw [iupd_sets (ag2_plen h)]
  have hl2 := ag2_plen h
  unfold ag2P ag1P ag0P iage iask at *; simp [pI_set_ne, pB_set_ne, pI_set_same, pB_set_same, hl, hl2, pI_port]
theorem ag3_77 {B : Br} {k : Nat} (h : k * 89 + 89 ≤ B.ps.length) : (ag3 B k).gi k 77 = B.gi k 77 := by
  rw [← pI_port (by decide), ag3_port h]
  have hl := port_len h
  unfold ag3P iupdL iupd
  rw [iupd_sets (ag2_plen h)]
  have hl2 := ag2_plen h
  unfold ag2P ag1P ag0P iage iask at *; simp [pI_set_ne, pB_set_ne, pI_set_same, pB_set_same, hl, hl2, pI_port]
theorem ag3_78 {B : Br} {k : Nat} (h : k * 89 + 89 ≤ B.ps.length) : (ag3 B k).gi k 78 = B.gi k 82 := by
  rw [← pI_port (by decide), ag3_port h]
  have hl := port_len h
  unfold ag3P iupdL iupd
  rw [iupd_sets (ag2_plen h)]
  have hl2 := ag2_plen h
  unfold ag2P ag1P ag0P iage iask at *; simp [pI_set_ne, pB_set_ne, pI_set_same, pB_set_same, hl, hl2, pI_port]
theorem ag3_79 {B : Br} {k : Nat} (h : k * 89 + 89 ≤ B.ps.length) : (ag3 B k).gi k 79 = B.gi k 83 := by
  rw [← pI_port (by decide), ag3_port h]
  have hl := port_len h
  unfold ag3P iupdL iupd
  rw [iupd_sets (ag2_plen h)]
  have hl2 := ag2_plen h
  unfold ag2P ag1P ag0P iage iask at *; simp [pI_set_ne, pB_set_ne, pI_set_same, pB_set_same, hl, hl2, pI_port]
theorem ag3_80 {B : Br} {k : Nat} (h : k * 89 + 89 ≤ B.ps.length) : (ag3 B k).gi k 80 = B.gi k 84 := by
  rw [← pI_port (by decide), ag3_port h]
  have hl := port_len h
  unfold ag3P iupdL iupd
  rw [iupd_sets (ag2_plen h)]
  have hl2 := ag2_plen h
  unfold ag2P ag1P ag0P iage iask at *; simp [pI_set_ne, pB_set_ne, pI_set_same, pB_set_same, hl, hl2, pI_port]
theorem ag3_81 {B : Br} {k : Nat} (h : k * 89 + 89 ≤ B.ps.length) : (ag3 B k).gi k 81 = B.gi k 85 := by
  rw [← pI_port (by decide), ag3_port h]
  have hl := port_len h
  unfold ag3P iupdL iupd
  rw [iupd_sets (ag2_plen h)]
  have hl2 := ag2_plen h
  unfold ag2P ag1P ag0P iage iask at *; simp [pI_set_ne, pB_set_ne, pI_set_same, pB_set_same, hl, hl2, pI_port]
theorem ag3_82 {B : Br} {k : Nat} (h : k * 89 + 89 ≤ B.ps.length) : (ag3 B k).gi k 82 = B.gi k 82 := by
  rw [← pI_port (by decide), ag3_port h]
  have hl := port_len h
  unfold ag3P iupdL iupd
  rw [iupd_sets (ag2_plen h)]
  have hl2 := ag2_plen h
  unfold ag2P ag1P ag0P iage iask at *; simp [pI_set_ne, pB_set_ne, pI_set_same, pB_set_same, hl, hl2, pI_port]
theorem ag3_83 {B : Br} {k : Nat} (h : k * 89 + 89 ≤ B.ps.length) : (ag3 B k).gi k 83 = B.gi k 83 := by
  rw [← pI_port (by decide), ag3_port h]
  have hl := port_len h
  unfold ag3P iupdL iupd
  rw [iupd_sets (ag2_plen h)]
  have hl2 := ag2_plen h
  unfold ag2P ag1P ag0P iage iask at *; simp [pI_set_ne, pB_set_ne, pI_set_same, pB_set_same, hl, hl2, pI_port]
theorem ag3_84 {B : Br} {k : Nat} (h : k * 89 + 89 ≤ B.ps.length) : (ag3 B k).gi k 84 = B.gi k 84 := by
  rw [← pI_port (by decide), ag3_port h]
  have hl := port_len h
  unfold ag3P iupdL iupd
  rw [iupd_sets (ag2_plen h)]
  have hl2 := ag2_plen h
  unfold ag2P ag1P ag0P iage iask at *; simp [pI_set_ne, pB_set_ne, pI_set_same, pB_set_same, hl, hl2, pI_port]
theorem ag3_85 {B : Br} {k : Nat} (h : k * 89 + 89 ≤ B.ps.length) : (ag3 B k).gi k 85 = B.gi k 85 := by
  rw [← pI_port (by decide), ag3_port h]
  have hl := port_len h
  unfold ag3P iupdL iupd
  rw [iupd_sets (ag2_plen h)]
  have hl2 := ag2_plen h
  unfold ag2P ag1P ag0P iage iask at *; simp [pI_set_ne, pB_set_ne, pI_set_same, pB_set_same, hl, hl2, pI_port]
theorem port_setr {B : Br} {k j : Nat} {l : List Value} (hk : k * 89 + 89 ≤ B.ps.length) (hj : j + l.length ≤ 89) : port (B.setr k j l).ps k = setL (port B.ps k) j l := by
  apply List.ext_getElem?
  intro i
  have hl := port_len hk
  rw [setL_at (by omega)]
  by_cases hi : i < 89
  · rw [port_at hi, setr_at hk hj, port_at hi]
    by_cases e : j ≤ i ∧ i < j + l.length
    · rw [if_pos (by omega), if_pos e]
      congr 1; omega
    · rw [if_neg (by omega), if_neg e]
  · rw [List.getElem?_eq_none (by simp [port]; omega), if_neg (by omega), List.getElem?_eq_none (by omega)]
theorem setr_eq {B : Br} {k j : Nat} {l : List Value} (hk : k * 89 + 89 ≤ B.ps.length) (hj : j + l.length ≤ 89) : B.setr k j l = B.setPort k (setL (port B.ps k) j l) := by
  have hl := port_len hk
  have h2 : (setL (port B.ps k) j l).length = 89 := by rw [setL_len (by omega), hl]
  refine Br.ext_ps rfl rfl (fun i => ?_) rfl rfl rfl rfl
  rw [setr_at hk hj, setPort_at h2 hk]
  by_cases e : k * 89 ≤ i ∧ i < k * 89 + 89
  · rw [if_pos e, setL_at (by omega)]
    by_cases e2 : k * 89 + j ≤ i ∧ i < k * 89 + j + l.length
    · rw [if_pos e2, if_pos (by omega)]
      congr 1; omega
    · rw [if_neg e2, if_neg (by omega), port_at (by omega)]
      congr 1; omega
  · rw [if_neg e, if_neg (by omega)]
theorem pI_setL_out {L vs : List Value} {i j : Nat} (h : i + vs.length ≤ L.length) (h2 : j < i ∨ i + vs.length ≤ j) : pI (setL L i vs) j = pI L j := by unfold pI; rw [setL_at h, if_neg (by omega)]
theorem pB_setL_out {L vs : List Value} {i j : Nat} (h : i + vs.length ≤ L.length) (h2 : j < i ∨ i + vs.length ≤ j) : pB (setL L i vs) j = pB L j := by unfold pB; rw [setL_at h, if_neg (by omega)]
theorem pI_setL_in {L vs : List Value} {i j : Nat} (h : i + vs.length ≤ L.length) (h2 : i ≤ j) (h3 : j < i + vs.length) : pI (setL L i vs) j = pI vs (j - i) := by unfold pI; rw [setL_at h, if_pos (by omega)]
theorem pB_setL_in {L vs : List Value} {i j : Nat} (h : i + vs.length ≤ L.length) (h2 : i ≤ j) (h3 : j < i + vs.length) : pB (setL L i vs) j = pB vs (j - i) := by unfold pB; rw [setL_at h, if_pos (by omega)]
theorem rep_cfg {L : List Value} (h51 : pI L 51 = 0) (r : Bool) : hearN 1 r L = ((((L.set 39 (.bool (pB L 39 || pB L 52))).set 40 (.bool (pB L 40 || pB L 53))).set 23 (.bool false)).set 11 (.int .i64 (waitsV (pI L 64) (pI L 65) (pI L 66)))) := by
  unfold hearN
  simp [h51, iprop, iagr, ichg]
theorem inf_cfg {L : List Value} (h51 : pI L 51 = 0) (r : Bool) : hearN 2 r L = L := by
  unfold hearN
  simp [h51, iinf]
theorem sup_cfg {L : List Value} (hl : L.length = 89) (h51 : pI L 51 = 0) (r : Bool) : ∃ v22 : Bool, hearN 0 r L = iask (((((((((((((((((((L.set 23 (.bool false)).set 34 (.bool false)).set 39 (.bool (pB L 39 || pB L 52))).set 40 (.bool (pB L 40 || pB L 53))).set 22 (.bool v22)).set 23 (.bool false)).set 47 (.bool false)).set 68 (.int .u64 (pI L 59))).set 69 (.int .u32 (pI L 60))).set 70 (.int .u64 (pI L 61))).set 71 (.int .u16 (pI L 62))).set 72 (.int .u16 (pI L 63))).set 78 (.int .i64 (pI L 64))).set 79 (.int .i64 (pI L 65))).set 80 (.int .i64 (pI L 66))).set 81 (.int .i64 (pI L 67))).set 11 (.int .i64 (waitsV (pI L 64) (pI L 65) (pI L 66)))).set 86 (.int .i64 3))) := by
  unfold hearN isup
  simp only [h51]
  simp only [show ((0 : Int) == 2) = false from rfl, Bool.false_and, Bool.and_false, iprop, iagr, ichg]
  rw [setL5 (by simp [hl]), setL4 (by simp [hl])]
  exact ⟨_, rfl⟩
theorem c4_self (r c b p : Int) : c4 r c b p r c b p = 0 := (c4_rg r c b p r c b p).2.2.2.2 ⟨rfl, rfl, rfl, rfl⟩
theorem infF_only {B : Br} (ho : B.ok) {k : Nat} (hk : k < B.np) (hR : TimR (port B.ps k)) : OnlyP k B (infF B k).2 := by
  have hl := tpL (infL_typed (br_typed ho hk) hR (B.hb 1))
  refine ⟨rfl, rfl, rfl, rfl, rfl, rfl, fun i hi => ?_⟩
  show (B.setPort k _).ps[i]? = _
  rw [setPort_at hl (len89 ho hk), if_neg (by omega)]
/-! ### What is repeated is kept longer -/
theorem ty_b {l : List (Option IntKind)} {L : List Value} {z : Bool} (h : Typed l L) : Typed (none :: l) (.bool z :: L) := ⟨by simp [h.1], fun j k hj => by
  cases j with
  | zero =>
    obtain rfl : none = k := by simpa using hj
    exact ⟨.bool z, rfl, z, rfl⟩
  | succ n => exact h.2 n k hj⟩
def kp0 (B : Br) (k : Nat) : Br := (((((B.setp k 2 (.bool true)).setp k 18 (.int .i64 2)).setp k 86 (.int .i64 3)).setp k 50 (.bool false)).setp k 36 (.bool true))
def kp0P (B : Br) (k : Nat) : List Value := ((((((port B.ps k).set 2 (.bool true)).set 18 (.int .i64 2)).set 86 (.int .i64 3)).set 50 (.bool false)).set 36 (.bool true))
theorem kp0_np {B : Br} {k : Nat} : (kp0 B k).np = B.np := rfl
theorem kp0_port {B : Br} {k : Nat} (h : k * 89 + 89 ≤ B.ps.length) : port (kp0 B k).ps k = (kp0P B k) := by
  unfold kp0 kp0P
  rw [port_setp (by decide), port_setp (by decide), port_setp (by decide), port_setp (by decide), port_setp (by decide)]
theorem kp0_plen {B : Br} {k : Nat} (h : k * 89 + 89 ≤ B.ps.length) : (kp0P B k).length = 89 := by unfold kp0P; simp only [List.length_set]; exact port_len h
theorem kp0_len {B : Br} {k : Nat} (h : k * 89 + 89 ≤ B.ps.length) : k * 89 + 89 ≤ (kp0 B k).ps.length := by unfold kp0; simp only [len_setp]; exact h
theorem kp0_ok {B : Br} {k : Nat} (ho : B.ok) (hk : k < B.np) : (kp0 B k).ok := (Br.ok.setB (Br.ok.setB (Br.ok.setI (Br.ok.setI (Br.ok.setB ho (k := k) hk 2 true rfl) (k := k) hk 18 .i64 2 rfl (by decide)) (k := k) hk 86 .i64 3 rfl (by decide)) (k := k) hk 50 false rfl) (k := k) hk 36 true rfl)
theorem kp0_tim {B : Br} {k : Nat} (h : k * 89 + 89 ≤ B.ps.length) (hR : TimR (port B.ps k)) : TimR (port (kp0 B k).ps k) := by rw [kp0_port h]; exact (tim_set (tim_set (tim_set (tim_set (tim_set hR (by decide)) (by decide)) (by decide)) (by decide)) (by decide))
def kp1M (B : Br) (k : Nat) : List Value := [.int .i64 0, .bool false, .bool false, .bool false, .bool false, .bool false, .bool false, .int .i64 0, .int .u64 (B.gi k 68), .int .u32 (B.gi k 69), .int .u64 (B.gi k 70), .int .u16 (B.gi k 71), .int .u16 (B.gi k 72), .int .i64 (B.gi k 78), .int .i64 (B.gi k 79), .int .i64 (B.gi k 80), .int .i64 (B.gi k 81)]
theorem kp1M_len {B : Br} {k : Nat} : (kp1M B k).length = 17 := rfl
def kp1P (B : Br) (k : Nat) : List Value := setL (kp0P B k) 51 (kp1M B k)
def kp1 (B : Br) (k : Nat) : Br := Br.setr (kp0 B k) k 51 (kp1M B k)
theorem kp1_np {B : Br} {k : Nat} : (kp1 B k).np = B.np := by unfold kp1; rw [np_setr]; exact kp0_np
theorem kp1_eq {B : Br} {k : Nat} (h : k * 89 + 89 ≤ B.ps.length) : (kp1 B k) = Br.setPort (kp0 B k) k (kp1P B k) := by
  unfold kp1 kp1P
  rw [setr_eq (kp0_len h) (by rw [kp1M_len]; decide), kp0_port h]
theorem kp1_plen {B : Br} {k : Nat} (h : k * 89 + 89 ≤ B.ps.length) : (kp1P B k).length = 89 := by unfold kp1P; rw [setL_len (by rw [kp1M_len, kp0_plen h]; decide)]; exact kp0_plen h
theorem kp1_port {B : Br} {k : Nat} (h : k * 89 + 89 ≤ B.ps.length) : port (kp1 B k).ps k = (kp1P B k) := by rw [kp1_eq h]; exact port_setPort (kp1_plen h) (kp0_len h)
theorem kp1_len {B : Br} {k : Nat} (h : k * 89 + 89 ≤ B.ps.length) : k * 89 + 89 ≤ (kp1 B k).ps.length := by rw [kp1_eq h, len_setPort (kp1_plen h) (kp0_len h)]; exact kp0_len h
theorem kp1_ok {B : Br} {k : Nat} (ho : B.ok) (hk : k < B.np) : (kp1 B k).ok := by
  have h := len89 ho hk
  have hk2 : k < Br.np (kp0 B k) := by rw [kp0_np]; exact hk
  have hT := br_typed (kp0_ok ho hk) hk2
  rw [kp0_port h] at hT
  rw [kp1_eq h]
  exact setPort_ok (kp0_ok ho hk) hk2 (Typed.setL hT (j := 51) (by rw [kp1M_len]; exact (by decide : 51 + 17 ≤ 89)) (by rw [kp1M_len]; exact (ty_cons (ty_b (ty_b (ty_b (ty_b (ty_b (ty_b (ty_cons (ty_cons (ty_cons (ty_cons (ty_cons (ty_cons (ty_cons (ty_cons (ty_cons (ty_cons ty_nil (ho.gw hk 81 rfl)) (ho.gw hk 80 rfl)) (ho.gw hk 79 rfl)) (ho.gw hk 78 rfl)) (ho.gw hk 72 rfl)) (ho.gw hk 71 rfl)) (ho.gw hk 70 rfl)) (ho.gw hk 69 rfl)) (ho.gw hk 68 rfl)) (by decide)))))))) (by decide))))
theorem kp1_tim {B : Br} {k : Nat} (h : k * 89 + 89 ≤ B.ps.length) (hR : TF (B.gi k 78) (B.gi k 79) (B.gi k 80) (B.gi k 81)) : TimR (port (kp1 B k).ps k) := by
  rw [kp1_port h]
  have hl : List.length (kp0P B k) = 89 := kp0_plen h
  have hz : (kp1M B k).length = 17 := rfl
  unfold TimR kp1P
  rw [pI_setL_in (by omega) (by omega) (by omega), pI_setL_in (by omega) (by omega) (by omega), pI_setL_in (by omega) (by omega) (by omega), pI_setL_in (by omega) (by omega) (by omega)]
  exact hR
theorem kp1P_51 {B : Br} {k : Nat} (h : k * 89 + 89 ≤ B.ps.length) : pI (kp1P B k) 51 = 0 := by
  have hl := kp0_plen h
  have hq := port_len h
  have hz : (kp1M B k).length = 17 := rfl
  unfold kp1P
  rw [pI_setL_in (by omega) (by omega) (by omega)]
  rfl
theorem kp1P_58 {B : Br} {k : Nat} (h : k * 89 + 89 ≤ B.ps.length) : pI (kp1P B k) 58 = 0 := by
  have hl := kp0_plen h
  have hq := port_len h
  have hz : (kp1M B k).length = 17 := rfl
  unfold kp1P
  rw [pI_setL_in (by omega) (by omega) (by omega)]
  rfl
theorem kp1P_59 {B : Br} {k : Nat} (h : k * 89 + 89 ≤ B.ps.length) : pI (kp1P B k) 59 = B.gi k 68 := by
  have hl := kp0_plen h
  have hq := port_len h
  have hz : (kp1M B k).length = 17 := rfl
  unfold kp1P
  rw [pI_setL_in (by omega) (by omega) (by omega)]
  rfl
theorem kp1P_60 {B : Br} {k : Nat} (h : k * 89 + 89 ≤ B.ps.length) : pI (kp1P B k) 60 = B.gi k 69 := by
  have hl := kp0_plen h
  have hq := port_len h
  have hz : (kp1M B k).length = 17 := rfl
  unfold kp1P
  rw [pI_setL_in (by omega) (by omega) (by omega)]
  rfl
theorem kp1P_61 {B : Br} {k : Nat} (h : k * 89 + 89 ≤ B.ps.length) : pI (kp1P B k) 61 = B.gi k 70 := by
  have hl := kp0_plen h
  have hq := port_len h
  have hz : (kp1M B k).length = 17 := rfl
  unfold kp1P
  rw [pI_setL_in (by omega) (by omega) (by omega)]
  rfl
theorem kp1P_62 {B : Br} {k : Nat} (h : k * 89 + 89 ≤ B.ps.length) : pI (kp1P B k) 62 = B.gi k 71 := by
  have hl := kp0_plen h
  have hq := port_len h
  have hz : (kp1M B k).length = 17 := rfl
  unfold kp1P
  rw [pI_setL_in (by omega) (by omega) (by omega)]
  rfl
theorem kp1P_63 {B : Br} {k : Nat} (h : k * 89 + 89 ≤ B.ps.length) : pI (kp1P B k) 63 = B.gi k 72 := by
  have hl := kp0_plen h
  have hq := port_len h
  have hz : (kp1M B k).length = 17 := rfl
  unfold kp1P
  rw [pI_setL_in (by omega) (by omega) (by omega)]
  rfl
theorem kp1P_64 {B : Br} {k : Nat} (h : k * 89 + 89 ≤ B.ps.length) : pI (kp1P B k) 64 = B.gi k 78 := by
  have hl := kp0_plen h
  have hq := port_len h
  have hz : (kp1M B k).length = 17 := rfl
  unfold kp1P
  rw [pI_setL_in (by omega) (by omega) (by omega)]
  rfl
theorem kp1P_65 {B : Br} {k : Nat} (h : k * 89 + 89 ≤ B.ps.length) : pI (kp1P B k) 65 = B.gi k 79 := by
  have hl := kp0_plen h
  have hq := port_len h
  have hz : (kp1M B k).length = 17 := rfl
  unfold kp1P
  rw [pI_setL_in (by omega) (by omega) (by omega)]
  rfl
theorem kp1P_66 {B : Br} {k : Nat} (h : k * 89 + 89 ≤ B.ps.length) : pI (kp1P B k) 66 = B.gi k 80 := by
  have hl := kp0_plen h
  have hq := port_len h
  have hz : (kp1M B k).length = 17 := rfl
  unfold kp1P
  rw [pI_setL_in (by omega) (by omega) (by omega)]
  rfl
theorem kp1P_67 {B : Br} {k : Nat} (h : k * 89 + 89 ≤ B.ps.length) : pI (kp1P B k) 67 = B.gi k 81 := by
  have hl := kp0_plen h
  have hq := port_len h
  have hz : (kp1M B k).length = 17 := rfl
  unfold kp1P
  rw [pI_setL_in (by omega) (by omega) (by omega)]
  rfl
theorem kp1P_52 {B : Br} {k : Nat} (h : k * 89 + 89 ≤ B.ps.length) : pB (kp1P B k) 52 = false := by
  have hl := kp0_plen h
  have hq := port_len h
  have hz : (kp1M B k).length = 17 := rfl
  unfold kp1P
  rw [pB_setL_in (by omega) (by omega) (by omega)]
  rfl
theorem kp1P_53 {B : Br} {k : Nat} (h : k * 89 + 89 ≤ B.ps.length) : pB (kp1P B k) 53 = false := by
  have hl := kp0_plen h
  have hq := port_len h
  have hz : (kp1M B k).length = 17 := rfl
  unfold kp1P
  rw [pB_setL_in (by omega) (by omega) (by omega)]
  rfl
theorem kp1P_68 {B : Br} {k : Nat} (h : k * 89 + 89 ≤ B.ps.length) : pI (kp1P B k) 68 = B.gi k 68 := by
  have hl := kp0_plen h
  have hq := port_len h
  have hz : (kp1M B k).length = 17 := rfl
  unfold kp1P
  rw [pI_setL_out (by omega) (by omega)]
  unfold kp0P
  simp [pI_set_ne, pB_set_ne, pI_set_same, pB_set_same, hq, pI_port, pB_port]
theorem kp1P_69 {B : Br} {k : Nat} (h : k * 89 + 89 ≤ B.ps.length) : pI (kp1P B k) 69 = B.gi k 69 := by
  have hl := kp0_plen h
  have hq := port_len h
  have hz : (kp1M B k).length = 17 := rfl
  unfold kp1P
  rw [pI_setL_out (by omega) (by omega)]
  unfold kp0P
  simp [pI_set_ne, pB_set_ne, pI_set_same, pB_set_same, hq, pI_port, pB_port]
theorem kp1P_70 {B : Br} {k : Nat} (h : k * 89 + 89 ≤ B.ps.length) : pI (kp1P B k) 70 = B.gi k 70 := by
  have hl := kp0_plen h
  have hq := port_len h
  have hz : (kp1M B k).length = 17 := rfl
  unfold kp1P
  rw [pI_setL_out (by omega) (by omega)]
  unfold kp0P
  simp [pI_set_ne, pB_set_ne, pI_set_same, pB_set_same, hq, pI_port, pB_port]
theorem kp1P_71 {B : Br} {k : Nat} (h : k * 89 + 89 ≤ B.ps.length) : pI (kp1P B k) 71 = B.gi k 71 := by
  have hl := kp0_plen h
  have hq := port_len h
  have hz : (kp1M B k).length = 17 := rfl
  unfold kp1P
  rw [pI_setL_out (by omega) (by omega)]
  unfold kp0P
  simp [pI_set_ne, pB_set_ne, pI_set_same, pB_set_same, hq, pI_port, pB_port]
theorem kp1P_72 {B : Br} {k : Nat} (h : k * 89 + 89 ≤ B.ps.length) : pI (kp1P B k) 72 = B.gi k 72 := by
  have hl := kp0_plen h
  have hq := port_len h
  have hz : (kp1M B k).length = 17 := rfl
  unfold kp1P
  rw [pI_setL_out (by omega) (by omega)]
  unfold kp0P
  simp [pI_set_ne, pB_set_ne, pI_set_same, pB_set_same, hq, pI_port, pB_port]
theorem kp1P_78 {B : Br} {k : Nat} (h : k * 89 + 89 ≤ B.ps.length) : pI (kp1P B k) 78 = B.gi k 78 := by
  have hl := kp0_plen h
  have hq := port_len h
  have hz : (kp1M B k).length = 17 := rfl
  unfold kp1P
  rw [pI_setL_out (by omega) (by omega)]
  unfold kp0P
  simp [pI_set_ne, pB_set_ne, pI_set_same, pB_set_same, hq, pI_port, pB_port]
theorem kp1P_79 {B : Br} {k : Nat} (h : k * 89 + 89 ≤ B.ps.length) : pI (kp1P B k) 79 = B.gi k 79 := by
  have hl := kp0_plen h
  have hq := port_len h
  have hz : (kp1M B k).length = 17 := rfl
  unfold kp1P
  rw [pI_setL_out (by omega) (by omega)]
  unfold kp0P
  simp [pI_set_ne, pB_set_ne, pI_set_same, pB_set_same, hq, pI_port, pB_port]
theorem kp1P_80 {B : Br} {k : Nat} (h : k * 89 + 89 ≤ B.ps.length) : pI (kp1P B k) 80 = B.gi k 80 := by
  have hl := kp0_plen h
  have hq := port_len h
  have hz : (kp1M B k).length = 17 := rfl
  unfold kp1P
  rw [pI_setL_out (by omega) (by omega)]
  unfold kp0P
  simp [pI_set_ne, pB_set_ne, pI_set_same, pB_set_same, hq, pI_port, pB_port]
theorem kp1P_81 {B : Br} {k : Nat} (h : k * 89 + 89 ≤ B.ps.length) : pI (kp1P B k) 81 = B.gi k 81 := by
  have hl := kp0_plen h
  have hq := port_len h
  have hz : (kp1M B k).length = 17 := rfl
  unfold kp1P
  rw [pI_setL_out (by omega) (by omega)]
  unfold kp0P
  simp [pI_set_ne, pB_set_ne, pI_set_same, pB_set_same, hq, pI_port, pB_port]
theorem kp1P_86 {B : Br} {k : Nat} (h : k * 89 + 89 ≤ B.ps.length) : pI (kp1P B k) 86 = 3 := by
  have hl := kp0_plen h
  have hq := port_len h
  have hz : (kp1M B k).length = 17 := rfl
  unfold kp1P
  rw [pI_setL_out (by omega) (by omega)]
  unfold kp0P
  simp [pI_set_ne, pB_set_ne, pI_set_same, pB_set_same, hq, pI_port, pB_port]
theorem kp1P_43 {B : Br} {k : Nat} (h : k * 89 + 89 ≤ B.ps.length) : pB (kp1P B k) 43 = B.gb k 43 := by
  have hl := kp0_plen h
  have hq := port_len h
  have hz : (kp1M B k).length = 17 := rfl
  unfold kp1P
  rw [pB_setL_out (by omega) (by omega)]
  unfold kp0P
  simp [pI_set_ne, pB_set_ne, pI_set_same, pB_set_same, hq, pI_port, pB_port]
theorem kp1P_44 {B : Br} {k : Nat} (h : k * 89 + 89 ≤ B.ps.length) : pB (kp1P B k) 44 = B.gb k 44 := by
  have hl := kp0_plen h
  have hq := port_len h
  have hz : (kp1M B k).length = 17 := rfl
  unfold kp1P
  rw [pB_setL_out (by omega) (by omega)]
  unfold kp0P
  simp [pI_set_ne, pB_set_ne, pI_set_same, pB_set_same, hq, pI_port, pB_port]
theorem kp_cls {B : Br} {k : Nat} (h : k * 89 + 89 ≤ B.ps.length) : clsL (kp1P B k) = 1 := by
  unfold clsL
  rw [kp1P_51 h, kp1P_58 h, kp1P_59 h, kp1P_60 h, kp1P_61 h, kp1P_62 h, kp1P_68 h, kp1P_69 h, kp1P_70 h, kp1P_71 h, kp1P_64 h, kp1P_65 h, kp1P_66 h, kp1P_67 h, kp1P_78 h, kp1P_79 h, kp1P_80 h, kp1P_81 h]
  rw [c4_self]
  simp [classN, tellsB]
theorem kp_take {B : Br} {k : Nat} {r : Bool} (h : k * 89 + 89 ≤ B.ps.length) : itakeL r (kp1P B k) = ((((((kp1P B k).set 39 (.bool (pB (kp1P B k) 39 || pB (kp1P B k) 52))).set 40 (.bool (pB (kp1P B k) 40 || pB (kp1P B k) 53))).set 23 (.bool false)).set 11 (.int .i64 (waitsV (B.gi k 78) (B.gi k 79) (B.gi k 80)))).set 36 (.bool false)).set 18 (.int .i64 2) := by
  unfold itakeL
  rw [kp_cls h, rep_cfg (kp1P_51 h), kp1P_64 h, kp1P_65 h, kp1P_66 h]
theorem kp1_68 {B : Br} {k : Nat} (h : k * 89 + 89 ≤ B.ps.length) : (kp1 B k).gi k 68 = B.gi k 68 := by rw [← pI_port (by decide), kp1_port h]; exact kp1P_68 h
theorem kp1_69 {B : Br} {k : Nat} (h : k * 89 + 89 ≤ B.ps.length) : (kp1 B k).gi k 69 = B.gi k 69 := by rw [← pI_port (by decide), kp1_port h]; exact kp1P_69 h
theorem kp1_70 {B : Br} {k : Nat} (h : k * 89 + 89 ≤ B.ps.length) : (kp1 B k).gi k 70 = B.gi k 70 := by rw [← pI_port (by decide), kp1_port h]; exact kp1P_70 h
theorem kp1_71 {B : Br} {k : Nat} (h : k * 89 + 89 ≤ B.ps.length) : (kp1 B k).gi k 71 = B.gi k 71 := by rw [← pI_port (by decide), kp1_port h]; exact kp1P_71 h
theorem kp1_72 {B : Br} {k : Nat} (h : k * 89 + 89 ≤ B.ps.length) : (kp1 B k).gi k 72 = B.gi k 72 := by rw [← pI_port (by decide), kp1_port h]; exact kp1P_72 h
theorem kp1_78 {B : Br} {k : Nat} (h : k * 89 + 89 ≤ B.ps.length) : (kp1 B k).gi k 78 = B.gi k 78 := by rw [← pI_port (by decide), kp1_port h]; exact kp1P_78 h
theorem kp1_79 {B : Br} {k : Nat} (h : k * 89 + 89 ≤ B.ps.length) : (kp1 B k).gi k 79 = B.gi k 79 := by rw [← pI_port (by decide), kp1_port h]; exact kp1P_79 h
theorem kp1_80 {B : Br} {k : Nat} (h : k * 89 + 89 ≤ B.ps.length) : (kp1 B k).gi k 80 = B.gi k 80 := by rw [← pI_port (by decide), kp1_port h]; exact kp1P_80 h
theorem kp1_81 {B : Br} {k : Nat} (h : k * 89 + 89 ≤ B.ps.length) : (kp1 B k).gi k 81 = B.gi k 81 := by rw [← pI_port (by decide), kp1_port h]; exact kp1P_81 h
theorem kp1_86 {B : Br} {k : Nat} (h : k * 89 + 89 ≤ B.ps.length) : (kp1 B k).gi k 86 = 3 := by rw [← pI_port (by decide), kp1_port h]; exact kp1P_86 h
theorem kp1_43 {B : Br} {k : Nat} (h : k * 89 + 89 ≤ B.ps.length) : (kp1 B k).gb k 43 = B.gb k 43 := by rw [← pB_port (by decide), kp1_port h]; exact kp1P_43 h
theorem kp1_44 {B : Br} {k : Nat} (h : k * 89 + 89 ≤ B.ps.length) : (kp1 B k).gb k 44 = B.gb k 44 := by rw [← pB_port (by decide), kp1_port h]; exact kp1P_44 h
def kp2P (B : Br) (k : Nat) : List Value := itakeL (B.hb 1) (kp1P B k)
def kp2 (B : Br) (k : Nat) : Br := Br.setPort (kp1 B k) k (kp2P B k)
theorem kp2_np {B : Br} {k : Nat} : (kp2 B k).np = B.np := by unfold kp2; rw [np_setPort]; exact kp1_np
theorem kp2_plen {B : Br} {k : Nat} (h : k * 89 + 89 ≤ B.ps.length) : (kp2P B k).length = 89 := by unfold kp2P; rw [kp_take (h := h)]; simp only [List.length_set]; exact kp1_plen h
theorem kp2_port {B : Br} {k : Nat} (h : k * 89 + 89 ≤ B.ps.length) : port (kp2 B k).ps k = (kp2P B k) := port_setPort (kp2_plen h) (kp1_len h)
theorem kp2_len {B : Br} {k : Nat} (h : k * 89 + 89 ≤ B.ps.length) : k * 89 + 89 ≤ (kp2 B k).ps.length := by unfold kp2; rw [len_setPort (kp2_plen h) (kp1_len h)]; exact kp1_len h
theorem kp2_row {B : Br} {k : Nat} (h : k * 89 + 89 ≤ B.ps.length) : irowL (kp1P B k) = 4 := by
  have hl := kp0_plen h
  have hz : (kp1M B k).length = 17 := rfl
  have hq := port_len h
  unfold irowL irowB kp1P
  simp only [hl, hz, pI_setL_out, pB_setL_out, Nat.reduceAdd, Nat.reduceLeDiff, Nat.reduceLT, or_true, true_or]
  unfold kp0P; simp [pI_set_ne, pB_set_ne, pI_set_same, pB_set_same, hq]
theorem kp2_step {B : Br} {k : Nat} (h : k * 89 + 89 ≤ B.ps.length) : infF (kp1 B k) k = (true, (kp2 B k)) := infF_do (kp1_port h) (by unfold infL; rw [kp2_row h ]; rfl)
theorem kp2_68 {B : Br} {k : Nat} (h : k * 89 + 89 ≤ B.ps.length) : (kp2 B k).gi k 68 = B.gi k 68 := by
  rw [← pI_port (by decide), kp2_port h]
  have hl := port_len h
  have hl2 := kp1_plen h
  unfold kp2P
  rw [kp_take h]
  simp [pI_set_ne, pB_set_ne, pI_set_same, pB_set_same, hl2, kp1P_68 h, kp1P_69 h, kp1P_70 h, kp1P_71 h, kp1P_72 h, kp1P_78 h, kp1P_79 h, kp1P_80 h, kp1P_81 h, kp1P_86 h, kp1P_43 h, kp1P_44 h]
theorem kp2_69 {B : Br} {k : Nat} (h : k * 89 + 89 ≤ B.ps.length) : (kp2 B k).gi k 69 = B.gi k 69 := by
  rw [← pI_port (by decide), kp2_port h]
  have hl := port_len h
  have hl2 := kp1_plen h
  unfold kp2P
  rw [kp_take h]
  simp [pI_set_ne, pB_set_ne, pI_set_same, pB_set_same, hl2, kp1P_68 h, kp1P_69 h, kp1P_70 h, kp1P_71 h, kp1P_72 h, kp1P_78 h, kp1P_79 h, kp1P_80 h, kp1P_81 h, kp1P_86 h, kp1P_43 h, kp1P_44 h]
theorem kp2_70 {B : Br} {k : Nat} (h : k * 89 + 89 ≤ B.ps.length) : (kp2 B k).gi k 70 = B.gi k 70 := by
  rw [← pI_port (by decide), kp2_port h]
  have hl := port_len h
  have hl2 := kp1_plen h
  unfold kp2P
  rw [kp_take h]
  simp [pI_set_ne, pB_set_ne, pI_set_same, pB_set_same, hl2, kp1P_68 h, kp1P_69 h, kp1P_70 h, kp1P_71 h, kp1P_72 h, kp1P_78 h, kp1P_79 h, kp1P_80 h, kp1P_81 h, kp1P_86 h, kp1P_43 h, kp1P_44 h]
theorem kp2_71 {B : Br} {k : Nat} (h : k * 89 + 89 ≤ B.ps.length) : (kp2 B k).gi k 71 = B.gi k 71 := by
  rw [← pI_port (by decide), kp2_port h]
  have hl := port_len h
  have hl2 := kp1_plen h
  unfold kp2P
  rw [kp_take h]
  simp [pI_set_ne, pB_set_ne, pI_set_same, pB_set_same, hl2, kp1P_68 h, kp1P_69 h, kp1P_70 h, kp1P_71 h, kp1P_72 h, kp1P_78 h, kp1P_79 h, kp1P_80 h, kp1P_81 h, kp1P_86 h, kp1P_43 h, kp1P_44 h]
theorem kp2_72 {B : Br} {k : Nat} (h : k * 89 + 89 ≤ B.ps.length) : (kp2 B k).gi k 72 = B.gi k 72 := by
  rw [← pI_port (by decide), kp2_port h]
  have hl := port_len h
  have hl2 := kp1_plen h
  unfold kp2P
  rw [kp_take h]
  simp [pI_set_ne, pB_set_ne, pI_set_same, pB_set_same, hl2, kp1P_68 h, kp1P_69 h, kp1P_70 h, kp1P_71 h, kp1P_72 h, kp1P_78 h, kp1P_79 h, kp1P_80 h, kp1P_81 h, kp1P_86 h, kp1P_43 h, kp1P_44 h]
theorem kp2_78 {B : Br} {k : Nat} (h : k * 89 + 89 ≤ B.ps.length) : (kp2 B k).gi k 78 = B.gi k 78 := by
  rw [← pI_port (by decide), kp2_port h]
  have hl := port_len h
  have hl2 := kp1_plen h
  unfold kp2P
  rw [kp_take h]
  simp [pI_set_ne, pB_set_ne, pI_set_same, pB_set_same, hl2, kp1P_68 h, kp1P_69 h, kp1P_70 h, kp1P_71 h, kp1P_72 h, kp1P_78 h, kp1P_79 h, kp1P_80 h, kp1P_81 h, kp1P_86 h, kp1P_43 h, kp1P_44 h]
theorem kp2_79 {B : Br} {k : Nat} (h : k * 89 + 89 ≤ B.ps.length) : (kp2 B k).gi k 79 = B.gi k 79 := by
  rw [← pI_port (by decide), kp2_port h]
  have hl := port_len h
  have hl2 := kp1_plen h
  unfold kp2P
  rw [kp_take h]
  simp [pI_set_ne, pB_set_ne, pI_set_same, pB_set_same, hl2, kp1P_68 h, kp1P_69 h, kp1P_70 h, kp1P_71 h, kp1P_72 h, kp1P_78 h, kp1P_79 h, kp1P_80 h, kp1P_81 h, kp1P_86 h, kp1P_43 h, kp1P_44 h]
theorem kp2_80 {B : Br} {k : Nat} (h : k * 89 + 89 ≤ B.ps.length) : (kp2 B k).gi k 80 = B.gi k 80 := by
  rw [← pI_port (by decide), kp2_port h]
  have hl := port_len h
  have hl2 := kp1_plen h
  unfold kp2P
  rw [kp_take h]
  simp [pI_set_ne, pB_set_ne, pI_set_same, pB_set_same, hl2, kp1P_68 h, kp1P_69 h, kp1P_70 h, kp1P_71 h, kp1P_72 h, kp1P_78 h, kp1P_79 h, kp1P_80 h, kp1P_81 h, kp1P_86 h, kp1P_43 h, kp1P_44 h]
theorem kp2_81 {B : Br} {k : Nat} (h : k * 89 + 89 ≤ B.ps.length) : (kp2 B k).gi k 81 = B.gi k 81 := by
  rw [← pI_port (by decide), kp2_port h]
  have hl := port_len h
  have hl2 := kp1_plen h
  unfold kp2P
  rw [kp_take h]
  simp [pI_set_ne, pB_set_ne, pI_set_same, pB_set_same, hl2, kp1P_68 h, kp1P_69 h, kp1P_70 h, kp1P_71 h, kp1P_72 h, kp1P_78 h, kp1P_79 h, kp1P_80 h, kp1P_81 h, kp1P_86 h, kp1P_43 h, kp1P_44 h]
theorem kp2_86 {B : Br} {k : Nat} (h : k * 89 + 89 ≤ B.ps.length) : (kp2 B k).gi k 86 = 3 := by
  rw [← pI_port (by decide), kp2_port h]
  have hl := port_len h
  have hl2 := kp1_plen h
  unfold kp2P
  rw [kp_take h]
  simp [pI_set_ne, pB_set_ne, pI_set_same, pB_set_same, hl2, kp1P_68 h, kp1P_69 h, kp1P_70 h, kp1P_71 h, kp1P_72 h, kp1P_78 h, kp1P_79 h, kp1P_80 h, kp1P_81 h, kp1P_86 h, kp1P_43 h, kp1P_44 h]
theorem kp2_11 {B : Br} {k : Nat} (h : k * 89 + 89 ≤ B.ps.length) : (kp2 B k).gi k 11 = waitsV (B.gi k 78) (B.gi k 79) (B.gi k 80) := by
  rw [← pI_port (by decide), kp2_port h]
  have hl := port_len h
  have hl2 := kp1_plen h
  unfold kp2P
  rw [kp_take h]
  simp [pI_set_ne, pB_set_ne, pI_set_same, pB_set_same, hl2, kp1P_68 h, kp1P_69 h, kp1P_70 h, kp1P_71 h, kp1P_72 h, kp1P_78 h, kp1P_79 h, kp1P_80 h, kp1P_81 h, kp1P_86 h, kp1P_43 h, kp1P_44 h]
theorem kp2_43 {B : Br} {k : Nat} (h : k * 89 + 89 ≤ B.ps.length) : (kp2 B k).gb k 43 = B.gb k 43 := by
  rw [← pB_port (by decide), kp2_port h]
  have hl := port_len h
  have hl2 := kp1_plen h
  unfold kp2P
  rw [kp_take h]
  simp [pI_set_ne, pB_set_ne, pI_set_same, pB_set_same, hl2, kp1P_68 h, kp1P_69 h, kp1P_70 h, kp1P_71 h, kp1P_72 h, kp1P_78 h, kp1P_79 h, kp1P_80 h, kp1P_81 h, kp1P_86 h, kp1P_43 h, kp1P_44 h]
theorem kp2_44 {B : Br} {k : Nat} (h : k * 89 + 89 ≤ B.ps.length) : (kp2 B k).gb k 44 = B.gb k 44 := by
  rw [← pB_port (by decide), kp2_port h]
  have hl := port_len h
  have hl2 := kp1_plen h
  unfold kp2P
  rw [kp_take h]
  simp [pI_set_ne, pB_set_ne, pI_set_same, pB_set_same, hl2, kp1P_68 h, kp1P_69 h, kp1P_70 h, kp1P_71 h, kp1P_72 h, kp1P_78 h, kp1P_79 h, kp1P_80 h, kp1P_81 h, kp1P_86 h, kp1P_43 h, kp1P_44 h]
theorem kp2_36 {B : Br} {k : Nat} (h : k * 89 + 89 ≤ B.ps.length) : (kp2 B k).gb k 36 = false := by
  rw [← pB_port (by decide), kp2_port h]
  have hl := port_len h
  have hl2 := kp1_plen h
  unfold kp2P
  rw [kp_take h]
  simp [pI_set_ne, pB_set_ne, pI_set_same, pB_set_same, hl2, kp1P_68 h, kp1P_69 h, kp1P_70 h, kp1P_71 h, kp1P_72 h, kp1P_78 h, kp1P_79 h, kp1P_80 h, kp1P_81 h, kp1P_86 h, kp1P_43 h, kp1P_44 h]

end Go.Proofs.Ythfoacgdkoijeaa
