/- FieldNil returns true for all numbers x, y and every int k: a nil field answers zero values and ErrNil, whatever the slices hold; the arguments read afterwards as before; the conditions are those of the given row alone (the listed package variables start as the text of the program lays them). -/
import Derived.Test.YtmoppnaoiihjfaaGreatDoorPiQ
import Derived.Test.YtmoppnaoiihjfaaGreatDoorPiM
import Derived.Lay
import Derived.Carry
import Derived.SevenTiedAt
import Derived.Test.YtmoppnaoiihjfaaGreatDoorNilJ1
import Derived.Test.YtmoppnaoiihjfaaGreatDoorNilJ2
import Derived.Test.YtmoppnaoiihjfaaGreatDoorNilJ3
import Derived.Test.YtmoppnaoiihjfaaGreatDoorCards
set_option linter.all false
set_option linter.deprecated false
/- FieldNil returns true for all numbers x and y and every k: a nil field answers zero values and ErrNil, whatever the slices of the numbers hold. No condition besides those of the given row (listed package variables start as the text of the program lays them). -/
open Go.Proofs
namespace Go.Proofs.YtmoppnaoiihjfaaGreatDoor.fieldNil
open Go Go.ChangeShapes Go.WideShapes Go.ChangeAt Go.RowKit
theorem own : ownKnob Tryz.prog.godebug = none := by kernel_rfl
set_option maxRecDepth 1000000
theorem wit_met (os : Os) (args : Array Value) : laidMetH Tryz.prog Rows.fieldNilRow.laid ((World.laidAll Tryz.prog os Rows.fieldNilRow.laid).forCall (fun _ _ => 0) ⟨#[], args, []⟩).memory := by
  rw [MakeChecks.laidMetH_plain _ _ _ (by kernel_rfl)]
  exact laidMet_laidAll _ (by kernel_rfl) (by kernel_rfl)
theorem laid_out : laidOutB Tryz.prog = true := j2
theorem read61 : Tryz.prog.readableRec 61 = true := by kernel_rfl
theorem row61 : 61 < Tryz.prog.types.size := of_decide_eq_true (by kernel_rfl)
theorem lifted (os : Os) (started : os.Started) (H : Type) (enc : TypeId × Value → H) :
    ReturnsInHanded {} Tryz.checked os 18 .any (fun w args => (Rows.fieldNilSpec.pre enc Tryz.prog Tryz.f18 [] false w args ∧ laidMetH Tryz.prog Rows.fieldNilRow.laid w) ∧ sizedMet enc Tryz.prog Tryz.f18 (OpenSpec.ofChange Rows.fieldNilSpec) false w args)
      (Rows.fieldNilSpec.post enc Tryz.prog Tryz.f18 false true false false) := by
  refine returnsInHanded_of_change_and (C := Tryz.checked) (X := fun w _ => laidMetH Tryz.prog Rows.fieldNilRow.laid w) (fun _ _ _ hh h => h.of_heap hh) own started (by kernel_rfl) Tryz.func18
    (ChangeSpec.witness_shaped (enc := enc) (C := Tryz.checked) (os := os) (X := fun w _ => laidMetH Tryz.prog Rows.fieldNilRow.laid w) false (World.laidAll Tryz.prog os Rows.fieldNilRow.laid) #[.agg #[.slice none 0 0, .slice none 0 0], .agg #[.slice none 0 0, .slice none 0 0], .int .i64 0] 8 (World.laidAll_os _ _ _)
      (World.shaped_of_ZipB (by kernel_rfl) (by kernel_rfl)) (by kernel_rfl) (by kernel_rfl) (by kernel_rfl) (wit_met os _)) ?_
  intro W base args ds gs before hval0 hW _ _ hL _
  have hval : ∀ (j : Nat) t v, Tryz.f18.params[j]? = some t → args[j]? = some v → Value.okWide Tryz.prog W .any base t v := hval0
  have hW' := hW
  obtain ⟨p, q, hA0, hV, rfl, hfz, hnd⟩ := hW
  have hA : DataW.TrodAll enc Tryz.prog W 0 (fun _ => true) true Tryz.f18.params.toList args.toList ds p := hA0
  rw [Tryz.params18] at hA hval
  obtain ⟨v0, v1, v2, d0, d1, d2, p0, p1, p2, rfl, rfl, rfl, h0, h1, h2⟩ := trodAll_three hA
  obtain ⟨rfl, rfl⟩ := trodVars_none hV
  obtain ⟨n, rfl, rfl, rfl, w0⟩ := open_int Tryz.underlying3 (hval 2 3 v2 rfl rfl) h2
  have h0k := h0
  have h1k := h1
  obtain ⟨a0, a1, y0, y1, m, rfl, rfl, rfl, hy0, hy1⟩ := Go.Joins.open_agg2 Tryz.underlying61 (by kernel_rfl) Go.PI.nc61 (hval 0 61 v0 rfl rfl) h0
  obtain ⟨b0, b1, z0, z1, m', rfl, rfl, rfl, hz0, hz1⟩ := Go.Joins.open_agg2 Tryz.underlying61 (by kernel_rfl) Go.PI.nc61 (hval 1 61 v1 rfl rfl) h1
  clear hA0 hval0
  refine (Go.PI.nil_calls (n := n) hy0 hy1 hz0 hz1).mono fun e W' ⟨he, hB⟩ => ?_
  subst he
  have mem0 : ∀ x ∈ y0.2 ++ y1.2, x ∈ y0.2 ++ y1.2 ++ (z0.2 ++ z1.2) ++ [] ++ [] := fun x hx => List.mem_append_left _ (List.mem_append_left _ (List.mem_append_left _ hx))
  have mem1 : ∀ x ∈ z0.2 ++ z1.2, x ∈ y0.2 ++ y1.2 ++ (z0.2 ++ z1.2) ++ [] ++ [] := fun x hx => List.mem_append_left _ (List.mem_append_left _ (List.mem_append_right _ hx))
  have hlt := fun x hx => hW'.lt x hx
  exact ⟨_, rfl, Go.PI.post_of_below (pa := _) (pv := []) hW' (fun _ _ _ => trodAll_mk1 (shut_bool Tryz.underlying4 _))
    (fun sp hsp => trodAll_mk3
      (WideElems.Trod_stays laid_out read61 row61 h0k (fun x hx => hB.same (hlt x (mem0 x hx))) (fun x hx => hsp x (mem0 x hx)))
      (WideElems.Trod_stays laid_out read61 row61 h1k (fun x hx => hB.same (hlt x (mem1 x hx))) (fun x hx => hsp x (mem1 x hx)))
      (shut_int Tryz.underlying3 w0)) (fun _ _ => rfl) (by rw [List.append_nil, List.append_nil, List.append_nil, List.append_nil]) hB (ok_one (by kernel_rfl) rfl (okWide_bool_mk Tryz.underlying4 _))⟩

theorem and_t {a b : Bool} (h : a = true) (k : b = true) : (a && b) = true := by rw [h, k]; rfl
theorem joined : joinedFacts Tryz.pinned.checked.prog 18 Tryz.f18 Rows.fieldNilSpec Rows.fieldNilRow = true := and_t (and_t (and_t (and_t (and_t (and_t (and_t (and_t (and_t (and_t (and_t (and_t (and_t (and_t (and_t (and_t (and_t (and_t (and_t (and_t (and_t (and_t (and_t (and_t (and_t (and_t (and_t (and_t (and_t (and_t (and_t (j1) j2) j3) j4) j5) j6) j7) j8) j9) j10) j11) j12) j13) j14) j15) j16) j17) j18) j19) j20) j21) j22) j23) j24) j25) j26) j27) j28) j29) j30) j31) j32
theorem row_holds : Rows.FieldNilSaid :=
  OpenClaim.holds_of_wide 18 Tryz.f18 rfl rfl rfl rfl rfl rfl rfl ⟨rfl, rfl, rfl, rfl, rfl⟩ rfl rfl rfl rfl rfl (by kernel_rfl) Tryz.func18 joined
    (of_decide_eq_true (by kernel_rfl)) (by unfold Func.isWrapper; first | (rw [if_pos (by decide +kernel)]; kernel_rfl) | (rw [if_neg (by decide +kernel)]; exact ⟨rfl, rfl⟩))
    (fun os started H enc _ => lifted os started H enc)
/-- THE CARD. -/
theorem card_holds : Rows.FieldNilCardSaid :=
  Claim7.holds_tied_plain_at .later [] [.data, .data, .data, .data, .sentinel, .sentinel, .pinned] true (true, "9c30db30c201d0dbaf7b3617799fe59e7125499debe4391bfda4861cc17be985") true
    row_holds (fun _ h => by cases h) k1 (fun _ h => by cases h) fieldNil_row_tie rfl ⟨rfl, rfl⟩ k2 rfl
    (fun f fn hf hfn => by
      obtain rfl : f = 18 := Option.some.inj (k3.symm.trans hf) |>.symm
      obtain rfl : fn = Tryz.f18 := (Option.some.inj (Tryz.func18.symm.trans hfn)).symm
      exact ⟨k4, fun j t ht => by
        rw [Tryz.params18] at ht
        have hm : t ∈ [61, 61, 3] := by simpa using Array.mem_of_getElem? ht
        have hall : ([61, 61, 3].all fun u => !Tryz.prog.wantsStandIn u) = true := by kernel_rfl
        exact (show Tryz.prog.wantsStandIn t = false by simpa using List.all_eq_true.1 hall t hm)⟩)
    k6
#print axioms card_holds
end Go.Proofs.YtmoppnaoiihjfaaGreatDoor.fieldNil

