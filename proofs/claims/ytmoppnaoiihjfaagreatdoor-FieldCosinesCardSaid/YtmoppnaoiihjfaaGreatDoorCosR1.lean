/- Own work of the verifier, group CosR1: CosR1 CosE. -/
import Derived.Test.YtmoppnaoiihjfaaGreatDoorPiL
set_option linter.all false
set_option linter.deprecated false
open Go.Proofs
namespace Go.PI
set_option maxRecDepth 1000000
theorem run17_1 : isTrue (quick ctx2 100000000 17 [iv 1] ⟨0, .nil⟩) = true := by kernel_rfl
theorem run17_2 : isTrue (quick ctx2 100000000 17 [iv 2] ⟨0, .nil⟩) = true := by kernel_rfl
theorem run17_3 : isTrue (quick ctx2 100000000 17 [iv 3] ⟨0, .nil⟩) = true := by kernel_rfl
theorem run17_11 : isTrue (quick ctx2 100000000 17 [iv 11] ⟨0, .nil⟩) = true := by kernel_rfl
theorem run17_13 : isTrue (quick ctx2 100000000 17 [iv 13] ⟨0, .nil⟩) = true := by kernel_rfl
theorem run17_14 : isTrue (quick ctx2 100000000 17 [iv 14] ⟨0, .nil⟩) = true := by kernel_rfl
end Go.PI

open Go.Proofs
namespace Go.PI
set_option maxRecDepth 1000000
theorem fn17 : ctx.fn 17 = some c17 := by kernel_rfl
def errOf (x : Option (AV × Heap)) : Bool :=
  match x with
  | some (.tup [.agg [.nils, .int .i64 0, .int .i64 0, .int .i64 0], .int .i64 2], H) => Nat.ble H.n 100
  | _ => false
theorem errOf_some {x : Option (AV × Heap)} (h : errOf x = true) : ∃ H, x = some (.tup [.agg [.nils, iv 0, iv 0, iv 0], iv 2], H) ∧ H.n ≤ 100 := by
  unfold errOf at h
  split at h
  · exact ⟨_, rfl, Nat.le_of_ble_eq_true h⟩
  · cases h
theorem err_neg (m : Nat) : errOf (quick ctx2 100000000 50 [iv (Int.negSucc m)] ⟨0, .nil⟩) = true := by kernel_rfl
theorem err_zero : errOf (quick ctx2 100000000 50 [iv 0] ⟨0, .nil⟩) = true := by kernel_rfl
theorem err_big (m : Nat) : errOf (quick ctx2 100000000 50 [iv (Int.ofNat (m + 16))] ⟨0, .nil⟩) = true := by kernel_rfl
set_option maxHeartbeats 1000000
theorem cos_err {n : Int} (h : errOf (quick ctx2 100000000 50 [iv n] ⟨0, .nil⟩) = true) (hn : n < 1 ∨ 15 < n) : Cl ctx2 17 [iv n] ⟨0, .nil⟩ fun r _ => r = .bool true := by
  refine cl_of rfl fn17 ?_
  obtain ⟨H1, h1, h2⟩ := errOf_some h
  refine ⟨100000000, _, H1, quick_sim h1, ?_⟩
  have hl : H1.n + 1 < lim := by unfold lim; omega
  refine ⟨by omega, ?_⟩
  have hp := Heap.get_push (H := H1) (b := .cells true 46 t46.zero.cells) (by omega) H1.n
  rw [if_pos rfl] at hp
  refine ⟨(H1.push (.cells true 46 t46.zero.cells)).set H1.n (.cells true 46 (splice [.nils, iv 0, iv 0, iv 0] 0 [.nils, iv 0, iv 0, iv 0])), ?_, ?_⟩
  · have e46 : ctx2.ty 46 = some t46 := rfl
    simp only [storeE, e46, hp]
    rfl
  · repeat' (first | refine ⟨fun _ => ?_, fun _ => ?_⟩ | fail)
    all_goals first
      | (exfalso; omega)
      | exact Cl.of_sum (H' := _) (v := .bool true) rfl rfl
end Go.PI

