/- FieldFields returns true for every Field: Check of the program and of the reference agree, Open answers a number of that field or the error, Field gives the field back; the argument reads afterwards as before; the conditions are those of the given row alone (the listed package variables start as the text of the program lays them). -/
import Derived.Test.YtgmhmahdmbdngaaGreatDoorFlBH
import Derived.Test.YtgmhmahdmbdngaaGreatDoorFlBG
import Derived.Lay
import Derived.Carry
import Derived.SevenTiedAt
import Derived.Test.YtgmhmahdmbdngaaGreatDoorFlBI
import Derived.Test.YtgmhmahdmbdngaaGreatDoorFlBJ
import Derived.Test.YtgmhmahdmbdngaaGreatDoorFlBK
import Derived.Test.YtgmhmahdmbdngaaGreatDoorCards
set_option linter.all false
set_option linter.deprecated false
open Go.Proofs
namespace Go.Proofs.YtgmhmahdmbdngaaGreatDoor.fieldFields
open Go Go.ChangeShapes Go.WideShapes Go.ChangeAt Go.RowKit
theorem own : ownKnob Tryz.prog.godebug = none := by kernel_rfl
set_option maxRecDepth 1000000
theorem wit_met (os : Os) (args : Array Value) : laidMetH Tryz.prog Rows.fieldFieldsRow.laid ((World.laidAll Tryz.prog os Rows.fieldFieldsRow.laid).forCall (fun _ _ => 0) ⟨#[], args, []⟩).memory := by
 rw [MakeChecks.laidMetH_plain _ _ _ (by kernel_rfl)]
 exact laidMet_laidAll _ (by kernel_rfl) (by kernel_rfl)
theorem laid_out : laidOutB Tryz.prog = true := j2
theorem read46 : Tryz.prog.readableRec 46 = true := by kernel_rfl
theorem row46 : 46 < Tryz.prog.types.size := of_decide_eq_true (by kernel_rfl)
theorem lifted (os : Os) (started : os.Started) (H : Type) (enc : TypeId × Value -> H) :
  ReturnsInHanded {} Tryz.checked os 6 .any (fun w args => (Rows.fieldFieldsSpec.pre enc Tryz.prog Tryz.f6 [] false w args /\ laidMetH Tryz.prog Rows.fieldFieldsRow.laid w) /\ sizedMet enc Tryz.prog Tryz.f6 (OpenSpec.ofChange Rows.fieldFieldsSpec) false w args)
   (Rows.fieldFieldsSpec.post enc Tryz.prog Tryz.f6 false true false false) := by
 refine returnsInHanded_of_change_and (C := Tryz.checked) (X := fun w _ => laidMetH Tryz.prog Rows.fieldFieldsRow.laid w) (fun _ _ _ hh h => h.of_heap hh) own started (by kernel_rfl) Tryz.func6
  (ChangeSpec.witness_shaped (enc := enc) (C := Tryz.checked) (os := os) (X := fun w _ => laidMetH Tryz.prog Rows.fieldFieldsRow.laid w) false (World.laidAll Tryz.prog os Rows.fieldFieldsRow.laid) #[.agg #[.slice none 0 0, .int .i64 0, .int .i64 0, .int .i64 0]] 8 (World.laidAll_os _ _ _)
   (World.shaped_of_ZipB (by kernel_rfl) (by kernel_rfl)) (by kernel_rfl) (by kernel_rfl) (by kernel_rfl) (wit_met os _)) ?_
 intro W base args ds gs before hval0 hW _ _ hL _
 have hval : ∀ (j : Nat) t v, Tryz.f6.params[j]? = some t -> args[j]? = some v -> Value.okWide Tryz.prog W .any base t v := hval0
 have hW' := hW
 obtain ⟨p, q, hA0, hV, rfl, hfz, hnd⟩ := hW
 have hA : DataW.TrodAll enc Tryz.prog W 0 (fun _ => true) true Tryz.f6.params.toList args.toList ds p := hA0
 rw [Tryz.params6] at hA
 obtain ⟨v0, d0, rfl, rfl, h0⟩ := trodAll_one hA
 obtain ⟨rfl, rfl⟩ := trodVars_none hV
 rw [Tryz.params6] at hval
 obtain ⟨cs, rfl, -⟩ := okWide_struct Tryz.underlying46 (hval 0 46 v0 rfl rfl)
 obtain ⟨fu0, g0⟩ := id h0
 clear hA0 hval0
 refine (Go.PI.fld_calls g0).mono fun e W' ⟨he, hB⟩ => ?_
 subst he
 have hlt := fun x hx => hW'.lt x hx
 exact ⟨_, rfl, Go.PI.post_of_below (pa := _) (pv := []) hW' (fun _ _ _ => trodAll_mk1 (shut_bool Tryz.underlying4 _))
  (fun sp hsp => trodAll_mk1
   (WideElems.Trod_stays laid_out read46 row46 h0 (fun x hx => hB.same (hlt x (by simp [hx]))) (fun x hx => hsp x (by simp [hx])))) (fun _ _ => rfl) (by simp) hB (ok_one (by kernel_rfl) rfl (okWide_bool_mk Tryz.underlying4 _))⟩
theorem and_t {a b : Bool} (h : a = true) (k : b = true) : (a && b) = true := by rw [h, k]; rfl
theorem joined : joinedFacts Tryz.pinned.checked.prog 6 Tryz.f6 Rows.fieldFieldsSpec Rows.fieldFieldsRow = true := and_t (and_t (and_t (and_t (and_t (and_t (and_t (and_t (and_t (and_t (and_t (and_t (and_t (and_t (and_t (and_t (and_t (and_t (and_t (and_t (and_t (and_t (and_t (and_t (and_t (and_t (and_t (and_t (and_t (and_t (and_t (j1) j2) j3) j4) j5) j6) j7) j8) j9) j10) j11) j12) j13) j14) j15) j16) j17) j18) j19) j20) j21) j22) j23) j24) j25) j26) j27) j28) j29) j30) j31) j32
theorem row_holds : Rows.FieldFieldsSaid :=
 OpenClaim.holds_of_wide 6 Tryz.f6 rfl rfl rfl rfl rfl rfl rfl ⟨rfl, rfl, rfl, rfl, rfl⟩ rfl rfl rfl rfl rfl (by kernel_rfl) Tryz.func6 joined
  (of_decide_eq_true (by kernel_rfl)) (by unfold Func.isWrapper; first | (rw [if_pos (by decide +kernel)]; kernel_rfl) | (rw [if_neg (by decide +kernel)]; exact ⟨rfl, rfl⟩))
  (fun os started H enc _ => lifted os started H enc)
theorem card_holds : Rows.FieldFieldsCardSaid :=
 Claim7.holds_tied_plain_at .later [] [.data, .data, .data] true (true, "9c30db30c201d0dbaf7b3617799fe59e7125499debe4391bfda4861cc17be985") true
  row_holds (fun _ h => by cases h) k1 (fun _ h => by cases h) fieldFields_row_tie rfl ⟨rfl, rfl⟩ k2 rfl
  (fun f fn hf hfn => by
   obtain rfl : f = 6 := Option.some.inj (k3.symm.trans hf) |>.symm
   obtain rfl : fn = Tryz.f6 := (Option.some.inj (Tryz.func6.symm.trans hfn)).symm
   exact ⟨k4, fun j t ht => by
    rw [Tryz.params6] at ht
    have hm : t ∈ [46] := by simpa using Array.mem_of_getElem? ht
    have hall : ([46].all fun u => !Tryz.prog.wantsStandIn u) = true := by kernel_rfl
    exact (show Tryz.prog.wantsStandIn t = false by simpa using List.all_eq_true.1 hall t hm)⟩)
  k6
end Go.Proofs.YtgmhmahdmbdngaaGreatDoor.fieldFields

