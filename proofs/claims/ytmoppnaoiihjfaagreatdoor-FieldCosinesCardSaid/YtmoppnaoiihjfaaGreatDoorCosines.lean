/- FieldCosines returns true for every int n, and the argument reads afterwards as before; the conditions are those of the given row alone (the listed package variables start as the text of the program lays them). -/
import Derived.Test.YtmoppnaoiihjfaaGreatDoorPiN
import Derived.Test.YtmoppnaoiihjfaaGreatDoorCosR1
import Derived.Test.YtmoppnaoiihjfaaGreatDoorCosR4
import Derived.Test.YtmoppnaoiihjfaaGreatDoorCosR5
import Derived.Test.YtmoppnaoiihjfaaGreatDoorCosR6
import Derived.Test.YtmoppnaoiihjfaaGreatDoorCosR7
import Derived.Test.YtmoppnaoiihjfaaGreatDoorCosR8
import Derived.Test.YtmoppnaoiihjfaaGreatDoorCosR9
import Derived.Test.YtmoppnaoiihjfaaGreatDoorCosR10
import Derived.Test.YtmoppnaoiihjfaaGreatDoorCosR12
import Derived.Test.YtmoppnaoiihjfaaGreatDoorCosR15
import Derived.Test.YtmoppnaoiihjfaaGreatDoorPiM
import Derived.Test.YtmoppnaoiihjfaaGreatDoorCosJ1
import Derived.Test.YtmoppnaoiihjfaaGreatDoorCosJ2
import Derived.Test.YtmoppnaoiihjfaaGreatDoorCosJ3
import Derived.Test.YtmoppnaoiihjfaaGreatDoorCards
set_option linter.all false
set_option linter.deprecated false
/- FieldCosines returns true for every int n: the numbers that begin with 2 and w and go on by the rule of the chapter descend to -2 in the field of 2 cos (pi / n), and for every n without such a field the error is ErrRange. No condition besides those of the given row (listed package variables start as the text of the program lays them). -/
open Go.Proofs
namespace Go.PI
theorem cos_call (n : Int) : ∃ k H, call ctx2 k 17 [iv n] ⟨0, .nil⟩ = some (.bool true, H) := by
  have closed : ∀ {m : Int}, isTrue (quick ctx2 100000000 17 [iv m] ⟨0, .nil⟩) = true → n = m → ∃ k H, call ctx2 k 17 [iv n] ⟨0, .nil⟩ = some (.bool true, H) := by
    rintro m h rfl
    obtain ⟨H, h⟩ := isTrue_some h
    exact ⟨_, H, quick_sim h⟩
  have err : errOf (quick ctx2 100000000 50 [iv n] ⟨0, .nil⟩) = true → (n < 1 ∨ 15 < n) → ∃ k H, call ctx2 k 17 [iv n] ⟨0, .nil⟩ = some (.bool true, H) := fun h1 h2 => by
    obtain ⟨k, v, H, h3, h4⟩ := cos_err h1 h2
    subst h4
    exact ⟨k, H, h3⟩
  by_cases h1 : n = 1; · exact closed run17_1 h1
  by_cases h2 : n = 2; · exact closed run17_2 h2
  by_cases h3 : n = 3; · exact closed run17_3 h3
  by_cases h4 : n = 4; · exact closed run17_4 h4
  by_cases h5 : n = 5; · exact closed run17_5 h5
  by_cases h6 : n = 6; · exact closed run17_6 h6
  by_cases h7 : n = 7; · exact closed run17_7 h7
  by_cases h8 : n = 8; · exact closed run17_8 h8
  by_cases h9 : n = 9; · exact closed run17_9 h9
  by_cases h10 : n = 10; · exact closed run17_10 h10
  by_cases h11 : n = 11; · exact closed run17_11 h11
  by_cases h12 : n = 12; · exact closed run17_12 h12
  by_cases h13 : n = 13; · exact closed run17_13 h13
  by_cases h14 : n = 14; · exact closed run17_14 h14
  by_cases h15 : n = 15; · exact closed run17_15 h15
  by_cases hb : 15 < n
  · obtain ⟨m, rfl⟩ : ∃ m : Nat, n = Int.ofNat (m + 16) := ⟨(n - 16).toNat, by simp only [Int.ofNat_eq_natCast]; omega⟩
    exact err (err_big m) (.inr hb)
  · by_cases h0 : n = 0
    · subst h0
      exact err err_zero (.inl (by omega))
    · obtain ⟨m, rfl⟩ : ∃ m : Nat, n = Int.negSucc m := ⟨(-n - 1).toNat, by rw [Int.negSucc_eq]; omega⟩
      exact err (err_neg m) (.inl (by omega))
theorem cos_walk (n : Int) (w : World) : Calls Tryz.prog 17 #[.int .i64 n] w fun e w' => e = .returned (.bool true) ∧ RowKit.Below w.heap.size w w' := by
  obtain ⟨k, H, h⟩ := cos_call n
  exact true_of ctx2_fine (n := k) (f := 17) (by rw [h]) (by kernel_rfl) (.cons (.int _ _) .nil) w
end Go.PI
namespace Go.Proofs.YtmoppnaoiihjfaaGreatDoor.fieldCosines
open Go Go.ChangeShapes Go.WideShapes Go.ChangeAt Go.RowKit
theorem own : ownKnob Tryz.prog.godebug = none := by kernel_rfl
set_option maxRecDepth 1000000
/-- The heap that the door's own run leaves meets the condition on the listed variables. -/
theorem door_met (os : Os) (args : Array Value) : laidMetH Tryz.prog Rows.fieldCosinesRow.laid ((World.doorLaid Tryz.prog 4000 os).forCall (fun _ _ => 0) ⟨#[], args, []⟩).memory :=
  laidMetH_of_parts3 (fuel := 8) (laidMet_of_run' 8 (by kernel_rfl) (by kernel_rfl)) (by kernel_rfl) (by kernel_rfl)

theorem lifted (os : Os) (started : os.Started) (H : Type) (enc : TypeId × Value → H) :
    ReturnsInHanded {} Tryz.checked os 17 .any (fun w args => (Rows.fieldCosinesSpec.pre enc Tryz.prog Tryz.f17 [] false w args ∧ laidMetH Tryz.prog Rows.fieldCosinesRow.laid w) ∧ sizedMet enc Tryz.prog Tryz.f17 (OpenSpec.ofChange Rows.fieldCosinesSpec) false w args)
      (Rows.fieldCosinesSpec.post enc Tryz.prog Tryz.f17 false true false false) := by
  refine returnsInHanded_of_change_and (C := Tryz.checked) (X := fun w _ => laidMetH Tryz.prog Rows.fieldCosinesRow.laid w) (fun _ _ _ hh h => h.of_heap hh) own started (by kernel_rfl) Tryz.func17
    (ChangeSpec.witness_shaped (enc := enc) (C := Tryz.checked) (os := os) (X := fun w _ => laidMetH Tryz.prog Rows.fieldCosinesRow.laid w) false (World.doorLaid Tryz.prog 4000 os) #[.int .i64 0] 8 rfl (World.shaped_of_RefB (by kernel_rfl) (by kernel_rfl)) (by kernel_rfl) (by kernel_rfl) (by kernel_rfl) (door_met os _)) ?_
  intro W base args ds gs before hval0 hW _ _ hL _
  have hval : ∀ (j : Nat) t v, Tryz.f17.params[j]? = some t → args[j]? = some v → Value.okWide Tryz.prog W .any base t v := hval0
  have hW' := hW
  obtain ⟨p, q, hA0, hV, rfl, hfz, hnd⟩ := hW
  have hA : DataW.TrodAll enc Tryz.prog W 0 (fun _ => true) true Tryz.f17.params.toList args.toList ds p := hA0
  rw [Tryz.params17] at hA hval
  obtain ⟨v0, d0, rfl, rfl, h0⟩ := trodAll_one hA
  obtain ⟨rfl, rfl⟩ := trodVars_none hV
  obtain ⟨n, rfl, rfl, rfl, w0⟩ := open_int Tryz.underlying3 (hval 0 3 v0 rfl rfl) h0
  clear hA0 hval0
  simp only [List.append_nil] at hW'
  refine (Go.PI.cos_walk n W).mono fun e W' ⟨he, hB⟩ => ?_
  subst he
  exact ⟨_, rfl, Go.PI.post_of_below (pa := []) (pv := []) hW' (fun _ _ _ => trodAll_mk1 (shut_bool Tryz.underlying4 _)) (fun sp _ => trodAll_mk1 (shut_int Tryz.underlying3 w0)) (fun _ _ => rfl) rfl hB (ok_one (by kernel_rfl) rfl (okWide_bool_mk Tryz.underlying4 _))⟩

theorem and_t {a b : Bool} (h : a = true) (k : b = true) : (a && b) = true := by rw [h, k]; rfl
theorem joined : joinedFacts Tryz.pinned.checked.prog 17 Tryz.f17 Rows.fieldCosinesSpec Rows.fieldCosinesRow = true := and_t (and_t (and_t (and_t (and_t (and_t (and_t (and_t (and_t (and_t (and_t (and_t (and_t (and_t (and_t (and_t (and_t (and_t (and_t (and_t (and_t (and_t (and_t (and_t (and_t (and_t (and_t (and_t (and_t (and_t (and_t (j1) j2) j3) j4) j5) j6) j7) j8) j9) j10) j11) j12) j13) j14) j15) j16) j17) j18) j19) j20) j21) j22) j23) j24) j25) j26) j27) j28) j29) j30) j31) j32
theorem row_holds : Rows.FieldCosinesSaid :=
  OpenClaim.holds_of_wide 17 Tryz.f17 rfl rfl rfl rfl rfl rfl rfl ⟨rfl, rfl, rfl, rfl, rfl⟩ rfl rfl rfl rfl rfl (by kernel_rfl) Tryz.func17 joined
    (of_decide_eq_true (by kernel_rfl)) (by unfold Func.isWrapper; first | (rw [if_pos (by decide +kernel)]; kernel_rfl) | (rw [if_neg (by decide +kernel)]; exact ⟨rfl, rfl⟩))
    (fun os started H enc _ => lifted os started H enc)
/-- THE CARD. -/
theorem card_holds : Rows.FieldCosinesCardSaid :=
  Claim7.holds_tied_plain_at .later [] [.data, .data, .data] true (true, "9c30db30c201d0dbaf7b3617799fe59e7125499debe4391bfda4861cc17be985") true
    row_holds (fun _ h => by cases h) k1 (fun _ h => by cases h) fieldCosines_row_tie rfl ⟨rfl, rfl⟩ k2 rfl
    (fun f fn hf hfn => by
      obtain rfl : f = 17 := Option.some.inj (k3.symm.trans hf) |>.symm
      obtain rfl : fn = Tryz.f17 := (Option.some.inj (Tryz.func17.symm.trans hfn)).symm
      exact ⟨k4, fun j t ht => by
        rw [Tryz.params17] at ht
        have hm : t ∈ [3] := by simpa using Array.mem_of_getElem? ht
        have hall : ([3].all fun u => !Tryz.prog.wantsStandIn u) = true := by kernel_rfl
        exact (show Tryz.prog.wantsStandIn t = false by simpa using List.all_eq_true.1 hall t hm)⟩)
    k6
#print axioms card_holds
end Go.Proofs.YtmoppnaoiihjfaaGreatDoor.fieldCosines

