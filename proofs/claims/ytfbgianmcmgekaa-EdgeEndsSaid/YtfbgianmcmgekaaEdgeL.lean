/- The machine of edges: the example; one port alone. No statement is proved here. -/
import Derived.Test.YtfbgianmcmgekaaEdgeD
import Derived.Test.YtfbgianmcmgekaaBrW
import Derived.Test.YtfbgianmcmgekaaBrO
namespace Go.Proofs.Ytfbgianmcmgekaa
open Go.RowKit Go.WideShapes Go.ChangeShapes Go.Deep
set_option linter.unusedVariables false

theorem edgeF_only (B : Br) (k : Nat) : OnlyP k B (edgeF B k).2 := by
  have h1 : OnlyP k B (edgeOff B k) := ((OnlyP.refl k B).setp (by decide) _).setp (by decide) _
  have h2 : OnlyP k B (edgeOn B k) := ((OnlyP.refl k B).setp (by decide) _).setp (by decide) _
  unfold edgeF
  split <;> (try split) <;> (try split) <;> first | exact OnlyP.refl k B | exact h1 | exact h2

def edgeP : List Value := (((((pz.set 2 (.bool true)).set 5 (.bool true)).set 17 (.int .i64 1)).set 45 (.bool true)).set 34 (.bool true))
def edgeH : List Value := hz
def edgeB : Br := ⟨edgeH, 1, edgeP, 0, [], 0, []⟩
theorem edgeB_ok : edgeB.ok := one_ok hz_ok (((((pz_ok.set 2 _ (fun k hk => by cases hk; first | exact ⟨_, rfl⟩ | exact ⟨_, rfl, by decide⟩)).set 5 _ (fun k hk => by cases hk; first | exact ⟨_, rfl⟩ | exact ⟨_, rfl, by decide⟩)).set 17 _ (fun k hk => by cases hk; first | exact ⟨_, rfl⟩ | exact ⟨_, rfl, by decide⟩)).set 45 _ (fun k hk => by cases hk; first | exact ⟨_, rfl⟩ | exact ⟨_, rfl, by decide⟩)).set 34 _ (fun k hk => by cases hk; first | exact ⟨_, rfl⟩ | exact ⟨_, rfl, by decide⟩))
theorem edge_len : edgeP.length = 89 := by kernel_rfl
def ewS : Value := .agg #[.int .i64 0, .int .i64 0, .int .i64 1, .int .i64 0, .int .i64 0, .int .i64 0, .int .i64 0]
def ewF : Value := .agg (((List.replicate 29 (Value.bool false)).set 23 (.bool true)).set 12 (.bool true)).toArray
theorem edge_b1 : Try.prog.built 52 [(2, .bool true), (5, .bool true), (7, ewS), (8, ewF)] = some edgeP.toArray := by kernel_rfl
theorem edge_b2 : Instr.fill (fun i => some (i * 89, 89)) ((Array.range (1 * 89)).map (PZ[· % PZ.size]!)) [(0, .agg edgeP.toArray)] = some edgeP.toArray := by kernel_rfl
theorem edge_b3 (b : Nat) : Try.prog.built 33 [(7, Value.slice (some ⟨b, 0, none⟩) 1 1)] = some (edgeH ++ [Value.slice (some ⟨b, 0, none⟩) 1 1, Value.slice none 0 0, Value.slice none 0 0]).toArray := by kernel_rfl
theorem edge_r0 : edgeF edgeB 0 = (true, (edgeOn edgeB 0)) := by kernel_rfl
theorem edge_g32 : ((edgeOn edgeB 0)).gb 0 32 = true := by kernel_rfl
theorem edge_g17 : ((edgeOn edgeB 0)).gi 0 17 = 0 := by kernel_rfl

set_option maxRecDepth 100000 in
set_option maxHeartbeats 2000000 in
theorem edge_awake (w : World) : Calls Try.prog 20 #[] w fun e w' => e = .returned (.bool true) ∧ Ext w w' := by
  have hmz := edge_b3 w.heap.size
  obtain ⟨C, hC⟩ : ∃ C, (edgeH ++ [Value.slice (some ⟨w.heap.size, 0, none⟩) 1 1, Value.slice none 0 0, Value.slice none 0 0]).toArray = C := ⟨_, rfl⟩
  rw [hC] at hmz
  have HM := Lib.hid hmz
  have hCz : C.size = 20 := by rw [← hC]; rfl
  have hCo : C.toList.all (·.oneCell') = true := by rw [← hC]; rfl
  have hCi := Lib.hid (show (Try.prog.info? 33).map (·.size) = some C.size by rw [hCz]; exact size_br)
  have HCz := Lib.hid (size_z20.trans hCz.symm)
  have HCo := Lib.hid hCo
  have HC := Lib.hid hC
  clear hC hCz hCo hmz
  go_enter Try.func20, Try.ntmps20
  go_wp2_with (first
    | fail
    | ((with_reducible refine at_build 52 ?_); refine wpList_build2 rfl 52 _ rfl [(2, .bool true), (5, .bool true), (7, ewS), (8, ewF)] rfl _ edge_b1 ?_)
    | ((with_reducible refine at_slice 29 ?_); refine wpList_slice1 rfl _ rfl [(0, .agg edgeP.toArray)] rfl _ edge_b2 ?_)
    | ((with_reducible refine at_build 33 ?_); refine wpList_build2 rfl 33 _ rfl [(7, Value.slice (some ⟨w.heap.size, 0, none⟩) 1 1)] rfl C HM.out ?_)
    | ((with_reducible refine at_store 33 ?_); refine wpList_store_new2 rfl rfl 33 _ _ _ rfl _ C _ rfl ?_ rfl hCi.out HCz.out HCo.out ?_; · simp))
  refine (edge_step _ (fun k => w.heap.size ≤ k) (w.heap.size + 1) w.heap.size 0 edgeB (one_port edge_len HC.out.symm) edgeB_ok (by decide) (by decide)).mono ?_
  rw [edge_r0]
  rintro e w0 ⟨he, hB0, hm0⟩
  obtain rfl : e = .returned (.bool true) := he
  have hE0 := (((Ext.refl w).alloc (.cells edgeP.toArray 52)).alloc (.cells C 33)).mutE hm0 (fun n hn h1 => by omega)
  have ok0 : Br.ok (edgeOn edgeB 0) := by
    have := edgeF_ok (k := 0) edgeB_ok (by decide)
    rw [edge_r0] at this
    exact this
  have H0 := Lib.hid hB0
  clear hB0 hm0
  obtain ⟨cap, c17, hc1, hc2⟩ := H0.out.cell17 ok0
  have hnp : ((edgeOn edgeB 0)).np = 1 := rfl
  rw [hnp] at c17 hc1
  clear hnp
  have p32 := (H0.out.cellg (i := 0 * 89 + 32) (lt89 (k := 0) (N := 1) (by decide) (by decide))).trans (ok0.gb (k := 0) (by decide) 32 rfl)
  rw [edge_g32, Nat.zero_mul, Nat.zero_add] at p32
  have p17 := (H0.out.cellg (i := 0 * 89 + 17) (lt89 (k := 0) (N := 1) (by decide) (by decide))).trans (ok0.gi (k := 0) (by decide) 17 rfl)
  rw [edge_g17, Nat.zero_mul, Nat.zero_add] at p17
  go_wp2_with fail
  go_ret
  exact ⟨rfl, hE0⟩

end Go.Proofs.Ytfbgianmcmgekaa
