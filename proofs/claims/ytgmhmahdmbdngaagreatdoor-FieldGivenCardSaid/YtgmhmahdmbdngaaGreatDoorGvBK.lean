/- Own work of the verifier: PvLaw7 GivArg. -/
import Derived.Test.YtgmhmahdmbdngaaGreatDoorGvBJ
import Derived.Test.YtgmhmahdmbdngaaGreatDoorGvBH
set_option linter.all false
set_option linter.deprecated false
open Go.Proofs
namespace Go.PI
open IM
set_option maxRecDepth 10000
set_option maxHeartbeats 4000000
theorem fn7 : ctx.fn 7 = some c7 := by kernel_rfl
theorem awake7 : Ct ctxA 20 [] 1 fun r => r = .bool true := by
 intro H W avs hw hr hn
 cases hr
 refine Cl.of_sum (v := .bool true) (H' := H) rfl ?_
 exact ⟨_, rfl, .bool _, KpH.refl _ _⟩
theorem root_form {d : Int} {r : PV} (h : RootQ d r) : ∃ P lo hi den e, r = .tup [pF P lo hi den, pn e] /\ P.length <= 8 /\ (e = 0 -> ∀ e', CkP P lo hi den e' -> e' = 0) := by
 cases h with
 | out => exact ⟨[], 0, 0, 0, 2, rfl, by decide, fun h => by cases h⟩
 | square => exact ⟨[], 0, 0, 0, 3, rfl, by decide, fun h => by cases h⟩
 | @ok k hd k0 h1 h2 => exact ⟨_, _, _, _, 0, rfl, by simp, fun _ e' h => root_ok hd k0 h1 h2 h⟩
theorem cos_len (n : Int) : (cosP n).1.length <= 8 := by
 by_cases h1 : n = 1
 ·subst h1; decide
 by_cases h2 : n = 2
 ·subst h2; decide
 by_cases h3 : n = 3
 ·subst h3; decide
 by_cases h4 : n = 4
 ·subst h4; decide
 by_cases h5 : n = 5
 ·subst h5; decide
 by_cases h6 : n = 6
 ·subst h6; decide
 by_cases h7 : n = 7
 ·subst h7; decide
 by_cases h8 : n = 8
 ·subst h8; decide
 by_cases h9 : n = 9
 ·subst h9; decide
 by_cases h10 : n = 10
 ·subst h10; decide
 by_cases h12 : n = 12
 ·subst h12; decide
 by_cases h15 : n = 15
 ·subst h15; decide
 unfold cosP
 rw [if_neg h1, if_neg h2, if_neg h3, if_neg h4, if_neg h5, if_neg h6, if_neg h7, if_neg h8, if_neg h9, if_neg h10, if_neg h12, if_neg h15]
 decide
theorem low_form {C : List Int} {d : Int} (hC : ∀ x ∈ C, (digits x).length <= 400) (hd : (digits d).length <= 400) (hl : C.length <= 4) :
  ∃ L D, lowP C d = pNum L D /\ (∀ x ∈ L, (digits x).length <= 1000000) /\ L.length <= 1000000 /\ (digits D).length <= 1000000 := by
 refine ⟨_, _, rfl, fun x hx => ?_, ?_, ?_⟩
 ·obtain ⟨y, hy, rfl⟩ := List.mem_map.1 hx
  have := hC y (trim_mem C y hy)
  exact Nat.le_trans (dlen_le (Int.natAbs_ediv_le_natAbs _ _)) (by omega)
 ·have := (trim_take C).2.2
  rw [List.length_map]
  omega
 ·exact Nat.le_trans (dlen_le (Int.natAbs_ediv_le_natAbs _ _)) (by omega)
theorem frac_form {a b : Int} (ha : In64 a) (hb : In64 b) : ∃ L D, fracP a b = pNum L D /\ (∀ x ∈ L, (digits x).length <= 1000000) /\ L.length <= 1000000 /\ (digits D).length <= 1000000 := by
 have la := len64 ha
 have lb := len64 hb
 have ln : ∀ {x : Int}, (digits x).length <= 3 -> (digits (-x)).length <= 400 := fun h => Nat.le_trans (dlen_le (by omega)) (Nat.le_trans h (by decide))
 have z : (digits 0).length <= 400 := by decide
 unfold fracP
 split
 ·refine low_form (fun x hx => ?_) (ln lb) (by simp)
  simp at hx
  rcases hx with rfl | rfl
  ·exact ln la
  ·exact z
 ·refine low_form (fun x hx => ?_) (by omega) (by simp)
  simp at hx
  rcases hx with rfl | rfl
  ·omega
  ·exact z
theorem ratio_form {a b : Int} (ha : In64 a) (hb : In64 b) : ∃ L D e, (if b = 0 then PV.tup [numZ, pn 12] else .tup [fracP a b, pn 0]) = .tup [pNum L D, pn e] /\ (∀ x ∈ L, (digits x).length <= 1000000) /\ L.length <= 1000000 /\ (digits D).length <= 1000000 := by
 split
 ·exact ⟨[], 0, 12, rfl, fun x hx => by simp at hx, by decide, by decide⟩
 ·obtain ⟨L, D, h1, h2, h3, h4⟩ := frac_form ha hb
  exact ⟨L, D, 0, by rw [h1], h2, h3, h4⟩
theorem given_ct (hK : OldK SA) (hN : OldN SA) {n a b : Int} (ha : In64 a) (hb : In64 b) : Ct ctxA 7 [pn n, pn a, pn b] 450000000000 fun r => r = .bool true := by
 refine ct_of rfl fn7 ?_
 refine callq rfl (root_ct SA rfl rfl rfl rfl rfl (d := n)) (by omega) ?_
 rintro r0 q0
 obtain ⟨P, lo, hi, den, e, rfl, hl, hv⟩ := root_form q0
 refine ⟨by omega, ?_⟩
 refine ⟨_, _, rfl, ⟨rfl, Nat.le_of_ble_eq_true rfl, rfl⟩, _, rfl, _, rfl, ?_⟩
 refine callq rfl (rroot_ct SA rfl rfl (d := n)) (by omega) ?_
 rintro r1 q1
 obtain rfl := rootq_same q1 q0
 refine ⟨by omega, ?_⟩
 refine ⟨_, _, rfl, ⟨rfl, Nat.le_of_ble_eq_true rfl, rfl⟩, _, rfl, _, rfl, ?_⟩
 refine callq rfl (cosine_ct SA hN (n := n)) (by omega) ?_
 rintro _ rfl
 refine ⟨by omega, ?_⟩
 refine ⟨_, _, rfl, ⟨rfl, Nat.le_of_ble_eq_true rfl, rfl⟩, _, rfl, _, rfl, ?_⟩
 refine callq rfl (rcosine_ct SA hN (n := n)) (by omega) ?_
 rintro _ rfl
 refine ⟨by omega, ?_⟩
 refine ⟨_, _, rfl, ⟨rfl, Nat.le_of_ble_eq_true rfl, rfl⟩, _, rfl, _, rfl, ?_⟩
 obtain ⟨L, D, e2, hr, hL1, hL2, hD⟩ := ratio_form ha hb
 obtain ⟨L', D', hw, hL1', hL2', hD'⟩ := frac_form ha (b := 1) (by unfold In64; omega)
 refine callq rfl ((ratio_ct SA hN ha hb).post fun r h => h.trans hr) (by omega) ?_
 rintro _ rfl
 refine ⟨by omega, ?_⟩
 refine ⟨_, _, rfl, ⟨rfl, Nat.le_of_ble_eq_true rfl, rfl⟩, _, rfl, _, rfl, ?_⟩
 refine callq rfl ((rratio_ct SA hN ha hb).post fun r h => h.trans hr) (by omega) ?_
 rintro _ rfl
 refine ⟨by omega, ?_⟩
 refine ⟨_, _, rfl, ⟨rfl, Nat.le_of_ble_eq_true rfl, rfl⟩, _, rfl, _, rfl, ?_⟩
 refine ⟨pF P lo hi den, rfl, pF P lo hi den, rfl, ?_⟩
 refine callq rfl (same_ct SA rfl rfl hl) (by omega) ?_
 rintro _ rfl
 refine ⟨fun h => absurd rfl h, fun _ => ?_⟩
 refine ⟨pF (cosP n).1 (cosP n).2.1 (cosP n).2.2.1 (cosP n).2.2.2.1, rfl, pF (cosP n).1 (cosP n).2.1 (cosP n).2.2.1 (cosP n).2.2.2.1, rfl, ?_⟩
 refine callq rfl (same_ct SA rfl rfl (cos_len n)) (by omega) ?_
 rintro _ rfl
 refine ⟨fun h => absurd rfl h, fun _ => ?_⟩
 refine ⟨pNum L D, rfl, pNum L D, rfl, ?_⟩
 refine callq rfl (samenum_ct SA hN hL1 hL2 hD) (by omega) ?_
 rintro _ rfl
 refine ⟨fun h => absurd rfl h, fun _ => ?_⟩
 refine callq rfl (rational_ct SA hN) (by omega) ?_
 rintro _ rfl
 refine callq rfl (rrational_ct SA hN) (by omega) ?_
 rintro _ rfl
 refine callq rfl (same_ct SA rfl rfl (P := [0, 1]) (by decide)) (by omega) ?_
 rintro _ rfl
 refine callq rfl ((whole_ct SA hN ha).post fun r h => h.trans hw) (by omega) ?_
 rintro _ rfl
 refine callq rfl ((rwhole_ct SA hN ha).post fun r h => h.trans hw) (by omega) ?_
 rintro _ rfl
 refine callq rfl (samenum_ct SA hN hL1' hL2' hD') (by omega) ?_
 rintro _ rfl
 have hc : ∀ {x : Int}, (cosP n).2.2.2.2 = 0 -> CkP (cosP n).1 (cosP n).2.1 (cosP n).2.2.1 (cosP n).2.2.2.1 x -> x = 0 := fun h0 h => cos_ok h0 h
 refine ⟨fun he => ?_, fun he => ?_⟩
 ·refine ⟨fun hc0 => ?_, fun hc0 => ?_⟩
  ·refine callq rfl awake7 (by omega) ?_
   rintro _ rfl
   exact endq rfl rfl
  ·refine ⟨pF (cosP n).1 (cosP n).2.1 (cosP n).2.2.1 (cosP n).2.2.2.1, rfl, ?_⟩
   refine callq rfl (check_ct SA hK (cos_len n)) (by omega) ?_
   rintro _ ⟨e5, h5, rfl⟩
   obtain rfl := hc hc0 h5
   refine ⟨fun _ => ?_, fun h => absurd rfl h⟩
   refine callq rfl awake7 (by omega) ?_
   rintro _ rfl
   exact endq rfl rfl
 ·refine ⟨pF P lo hi den, rfl, ?_⟩
  refine callq rfl (check_ct SA hK hl) (by omega) ?_
  rintro _ ⟨e4, h4, rfl⟩
  obtain rfl := hv he e4 h4
  refine ⟨fun _ => ?_, fun h => absurd rfl h⟩
  refine ⟨fun hc0 => ?_, fun hc0 => ?_⟩
  ·refine callq rfl awake7 (by omega) ?_
   rintro _ rfl
   exact endq rfl rfl
  ·refine ⟨pF (cosP n).1 (cosP n).2.1 (cosP n).2.2.1 (cosP n).2.2.2.1, rfl, ?_⟩
   refine callq rfl (check_ct SA hK (cos_len n)) (by omega) ?_
   rintro _ ⟨e5, h5, rfl⟩
   obtain rfl := hc hc0 h5
   refine ⟨fun _ => ?_, fun h => absurd rfl h⟩
   refine callq rfl awake7 (by omega) ?_
   rintro _ rfl
   exact endq rfl rfl
end Go.PI
open Go.Proofs
namespace Go.PI
open Go.ChangeShapes Go.WideShapes Go.ChangeAt Go.RowKit
open IM
theorem oldCA : OldC SA := ⟨oldA, rfl, rfl, rfl, rfl, rfl, rfl, rfl, rfl, rfl⟩
theorem oldKA : OldK SA := by constructor <;> first | exact oldCA | rfl
theorem oldRA : OldR SA := ⟨rfl, rfl, rfl, rfl, rfl, rfl, rfl, rfl, rfl, rfl, rfl, rfl, rfl, rfl, rfl, rfl, rfl⟩
theorem oldNA : OldN SA := by constructor <;> first | exact oldA | exact oldRA | rfl
theorem giv_calls {W : World} {n a b : Int} (ha : In64 a) (hb : In64 b) :
  Calls Tryz.prog 7 #[.int .i64 n, .int .i64 a, .int .i64 b] W fun e w' => e = .returned (.bool true) /\ Below W.heap.size W w' := by
 have i0 := imp0 W
 have law : Cl ctxA 7 [iv n, iv a, iv b] ⟨0, .nil⟩ fun r _ => r = .bool true := by
  refine (given_ct oldKA oldNA (n := n) ha hb _ (fun _ => False) [iv n, iv a, iv b] (fun b h => h.elim) (.cons (.int _ _) (.cons (.int _ _) (.cons (.int _ _) .nil))) (by show 0 + _ < lim; unfold lim; decide)).mono ?_
  rintro r H' ⟨q, rfl, hq, -⟩
  cases hq
  rfl
 obtain ⟨k, r, H', hc, rfl⟩ := law
 have hC := ctxA_fine
 rcases callF_sim hC (sound hC k) hc (args := #[.int .i64 n, .int .i64 a, .int .i64 b]) (.cons (.int _ _) (.cons (.int _ _) (.cons (.int _ _) .nil))) i0.hr with ⟨u, w', hrun, -⟩ | ⟨-, hcalls⟩
 ·exfalso
  obtain ⟨fn', f1, f2, f3, f4, f5⟩ := hC.fn 7 _ (show ctxA.fn 7 = some c7 from fn7)
  have f5' : ¬ fn'.name = "runtime.NumGoroutine" := by simpa using f5
  simp [callFunc, f1, f5', f4] at hrun
 ·have hw : Calls Tryz.prog 7 #[.int .i64 n, .int .i64 a, .int .i64 b] W fun e w' => ∃ u, e = .returned u /\ EffR _ _ W (.bool true) H' u w' := callsIn_wide.1 (hcalls Fence.wide 0 ⟨fun _ => trivial, rfl⟩)
  refine hw.mono ?_
  rintro e w' ⟨u, rfl, hE⟩
  refine ⟨?_, below_of i0.no hE⟩
  obtain ⟨μ', hv, -⟩ := hE
  rw [hv.bool_inv]
end Go.PI
