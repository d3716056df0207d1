/- Own work of the verifier, group IntA: PiInt IntArg. -/
import Derived.Test.YtgmhmahdmbdngaaGreatDoorRingA
import Derived.Test.YtgmhmahdmbdngaaGreatDoorRefE
import Derived.Test.YtgmhmahdmbdngaaGreatDoorRefF
set_option linter.all false
set_option linter.deprecated false
/- THE LAW FieldIntegers. -/
open Go.Proofs
namespace Go.PI
open IM
theorem fn3 : ctx.fn 3 = some c3 := by kernel_rfl
theorem oldRA : OldR SA := ⟨rfl, rfl, rfl, rfl, rfl, rfl, rfl, rfl, rfl, rfl, rfl, rfl, rfl, rfl, rfl, rfl, rfl⟩
theorem build2 {C : Ctx} (hT : C.ty = tget) {ρ : Operand → Option AV} {ox oy : Operand} {x y : AV} (hx : ρ ox = some x) (hy : ρ oy = some y) (cx : x.cells = [x] ∧ x.one = true) (cy : y.cells = [y] ∧ y.one = true) :
    allocE C ρ (.buildSlice 59 2 #[(0, ox), (1, oy)]) = some (.cells true 22 [x, y], fun A => .sl A 0 2 2) := by
  have e1 : t22.zero.cells = [.nils] := rfl
  have e2 : t22.size = 1 := rfl
  simp only [allocE, ty59 hT, t59, ty22 hT, partsE, hx, hy]
  simp [e1, e2, fillE, cx.1, cy.1, cx.2, cy.2, ones, splice]
theorem big20 {X : Int} (h : -1000000000000000000000000000000000000000000000000000000000000000000000000000000000000000000000000000000000000000000000000000000000000000000000000000000 ≤ X ∧ X ≤ 1000000000000000000000000000000000000000000000000000000000000000000000000000000000000000000000000000000000000000000000000000000000000000000000000000000) : -pw 20 < X ∧ X < pw 20 := by
  have := pw20'
  omega
theorem sv_of {H : Heap} {v : AV} {xs : List Int} {X : Int} (h : IV H v xs X) (hl : xs.length ≤ 5) (hb : -1000000000000000000000000000000000000000000000000000000000000 ≤ X ∧ X ≤ 1000000000000000000000000000000000000000000000000000000000000) : SV H v xs X ∧ (digits X).length ≤ 8 := by
  have h3 : pw 8 = 10000000000000000000000000000000000000000000000000000000000000000 := by decide
  have hd : (digits X).length ≤ 8 := len_of ⟨by omega, by omega⟩
  exact ⟨⟨h.sl, h.in64, by omega, h.val, by omega⟩, hd⟩
set_option maxRecDepth 100000
set_option maxHeartbeats 8000000
theorem int_law {H : Heap} {x y : AV} {n : Int} {xs ys : List Int} (hn : H.n + 10000000000 < lim) (sx : Seen H x xs) (sy : Seen H y ys) (cx : Cp x) (cy : Cp y)
    (lx : xs.length ≤ 9223372036854775807) (ly : ys.length ≤ 9223372036854775807) (ix : ∀ e ∈ xs, In64 e) (iy : ∀ e ∈ ys, In64 e) (hn64 : In64 n) :
    Cl ctxA 3 [x, y, iv n] H fun r _ => r = .bool true := by
  refine cl_of rfl fn3 ?_
  have hT : ctxA.ty = tget := rfl
  refine ⟨by omega, _, _, build2 hT (x := x) (y := y) rfl rfl (seen_cells sx) (seen_cells sy), ?_⟩
  have hp := Heap.get_push (H := H) (b := .cells true 22 [x, y]) (by omega)
  have k0 : Kp H (H.push (.cells true 22 [x, y])) 1 := ⟨by show H.n ≤ H.n + 1; omega, Nat.le_refl _, fun A hA => by rw [hp, if_neg (by omega)]⟩
  refine (short5_run SA rfl (H := H.push (.cells true 22 [x, y])) (b := H.n) (vs := [x, y]) (ls := [xs.length, ys.length]) (by rw [hp, if_pos rfl]) rfl (fun l hl => by simp at hl; rcases hl with rfl | rfl <;> assumption) (fun i v l h1 h2 => by
    match i, h1, h2 with
    | 0, h1, h2 => cases h1; cases h2; exact sx.1
    | 1, h1, h2 => cases h1; cases h2; exact sy.1
    | i + 2, h1, h2 => simp at h1) (by simp)).mono ?_
  rintro _ H0 ⟨rfl, rfl⟩
  obtain ⟨H0, e0⟩ : ∃ H0, H.push (.cells true 22 [x, y]) = H0 := ⟨_, rfl⟩
  rw [e0] at k0 ⊢
  cases hsh : ([xs.length, ys.length].all fun l => decide (l ≤ 5)) with
  | false =>
    refine Cl.of_sum (v := .bool true) (H' := H0) rfl ?_
    exact rfl
  | true =>
  simp only [List.all_cons, List.all_nil, Bool.and_true, Bool.and_eq_true, decide_eq_true_eq] at hsh
  obtain ⟨l1, l2⟩ := hsh
  obtain ⟨X, hX⟩ : ∃ X, val xs = X := ⟨_, rfl⟩
  obtain ⟨Y, hY⟩ : ∃ Y, val ys = Y := ⟨_, rfl⟩
  have bX := short_bound ix l1
  have bY := short_bound iy l2
  rw [hX] at bX
  rw [hY] at bY
  have hx : IV H0 x xs X := (IV.mk (sx.2 (by omega)) ix (by omega) hX).kp k0
  have hy : IV H0 y ys Y := (IV.mk (sy.2 (by omega)) iy (by omega) hY).kp k0
  obtain ⟨zx, dX⟩ := sv_of hx l1 bX
  obtain ⟨zy, dY⟩ := sv_of hy l2 bY
  have m0 := k0.m
  have pXY := prod_bound bX bY
  refine (fsmall_run SA oldA rfl (H := H0) (by omega) hx).mono ?_
  rintro _ H1 ⟨rfl, k1⟩
  have m1 := k1.m
  replace hx := hx.kp k1
  replace hy := hy.kp k1
  replace zx := zx.kp k1
  replace zy := zy.kp k1
  refine (rsmall_run SA oldRA (H := H1) (by omega) zx).mono ?_
  rintro _ H2 ⟨rfl, k2⟩
  have m2 := k2.m
  replace hx := hx.kp k2
  replace hy := hy.kp k2
  replace zx := zx.kp k2
  replace zy := zy.kp k2
  generalize (if -9223372036854775808 ≤ X ∧ X < 9223372036854775808 then X else 0) = sv
  generalize decide (-9223372036854775808 ≤ X ∧ X < 9223372036854775808) = β
  cases β
  all_goals
    refine ⟨fun h => absurd rfl h, fun _ => ?_⟩
    have dlX := hx.dlen
    refine (normalE_kp SA oldA rfl (H := H2) (by omega) hx).mono ?_
    rintro a1 H3 ⟨ha1, k3⟩
    have m3 := k3.m
    replace hx := hx.kp k3
    replace hy := hy.kp k3
    replace zx := zx.kp k3
    replace zy := zy.kp k3
    refine (rnormal_run SA rfl rfl rfl rfl (H := H3) (by have := zx.len; omega) zx.sl (by have := zx.len; omega) zx.in64).mono ?_
    rw [zx.val]
    rintro a2 H4 ⟨ga2, n4⟩
    have zxl := zx.len
    have k4 := ga2.kp (c := 200) (by omega)
    have m4 := k4.m
    replace hx := hx.kp k4
    replace hy := hy.kp k4
    replace zx := zx.kp k4
    replace zy := zy.kp k4
    have hb1 := ha1.kp k4
    refine (ints_true SA rfl (H := H4) hb1 ga2.toSl (by have := dlX; omega)).mono ?_
    rintro _ _ ⟨rfl, rfl⟩
    refine (of_run2 SA oldA.o rfl (H := H4) (n := n) (by omega) hn64).mono ?_
    rintro b1 H5 ⟨gb1, n5⟩
    have k5 := gb1.kp n5
    have m5 := k5.m
    replace hx := hx.kp k5
    replace hy := hy.kp k5
    replace zx := zx.kp k5
    replace zy := zy.kp k5
    obtain ⟨sn, kn⟩ := sv_one (G := H5) (c := n) (by omega) hn64
    have knm := kn.m
    refine ⟨by omega, _, _, rfl, ?_⟩
    refine (rnormal_run SA rfl rfl rfl rfl (H := H5.push (.cells true 3 [iv n])) (by simp; omega) sn.sl (by simp) sn.in64).mono ?_
    rw [sn.val]
    rintro b2 H6 ⟨gb2, n6⟩
    simp only [List.length_cons, List.length_nil] at n6
    have kb2 := gb2.kp (c := 60) (by omega)
    have k6 := kn.trans kb2 (Nat.le_refl _)
    have m6 := k6.m
    replace hx := hx.kp k6
    replace hy := hy.kp k6
    replace zx := zx.kp k6
    replace zy := zy.kp k6
    have hb3 := gb1.toSl.kp k6
    have dln : (digits n).length ≤ 20 := sn.dl
    refine (ints_true SA rfl (H := H6) hb3 gb2.toSl (by have := dln; omega)).mono ?_
    rintro _ _ ⟨rfl, rfl⟩
    refine (add_kp SA oldA rfl (H := H6) (by omega) hx hy).mono ?_
    rintro c1 H7 ⟨hc1, k7⟩
    have m7 := k7.m
    replace hx := hx.kp k7
    replace hy := hy.kp k7
    replace zx := zx.kp k7
    replace zy := zy.kp k7
    refine (radd_run SA oldRA (H := H7) (by omega) zx zy).mono ?_
    rintro c2 H8 ⟨gc2, n8⟩
    have k8 := gc2.kp n8
    have hc2 := gc2.toSl
    have m8 := k8.m
    replace hx := hx.kp k8
    replace hy := hy.kp k8
    replace zx := zx.kp k8
    replace zy := zy.kp k8
    replace hc1 := hc1.kp k8
    have ln_c1 := (SV.of hc1 (big20 (by omega))).dl
    refine (ints_true SA rfl (H := H8) hc1 hc2 (by have := ln_c1; omega)).mono ?_
    rintro _ _ ⟨rfl, rfl⟩
    refine (sub_kp SA oldA rfl (H := H8) (by omega) hx hy).mono ?_
    rintro d1 H9 ⟨hd1, k9⟩
    have m9 := k9.m
    replace hx := hx.kp k9
    replace hy := hy.kp k9
    replace zx := zx.kp k9
    replace zy := zy.kp k9
    refine (rsub_run SA oldRA (H := H9) (by omega) zx zy).mono ?_
    rintro d2 H10 ⟨gd2, n10⟩
    have k10 := gd2.kp n10
    have hd2 := gd2.toSl
    have m10 := k10.m
    replace hx := hx.kp k10
    replace hy := hy.kp k10
    replace zx := zx.kp k10
    replace zy := zy.kp k10
    replace hd1 := hd1.kp k10
    have ln_d1 := (SV.of hd1 (big20 (by omega))).dl
    refine (ints_true SA rfl (H := H10) hd1 hd2 (by have := ln_d1; omega)).mono ?_
    rintro _ _ ⟨rfl, rfl⟩
    refine (mul_kp SA oldA rfl (H := H10) (by omega) hx hy).mono ?_
    rintro e1 H11 ⟨he1, k11⟩
    have m11 := k11.m
    replace hx := hx.kp k11
    replace hy := hy.kp k11
    replace zx := zx.kp k11
    replace zy := zy.kp k11
    refine (rmul_run SA oldRA (H := H11) (by omega) zx zy (by omega)).mono ?_
    rintro e2 H12 ⟨ge2, n12⟩
    have k12 := ge2.kp n12
    have m12 := k12.m
    replace hx := hx.kp k12
    replace hy := hy.kp k12
    replace zx := zx.kp k12
    replace zy := zy.kp k12
    replace he1 := he1.kp k12
    have ln_e1 := (SV.of he1 (big20 (by omega))).dl
    refine (ints_true SA rfl (H := H12) he1 ge2.toSl (by have := ln_e1; omega)).mono ?_
    rintro _ _ ⟨rfl, rfl⟩
    refine (cmp_kp SA oldA rfl (H := H12) (by omega) hx hy).mono ?_
    rintro _ H13 ⟨rfl, k13⟩
    have m13 := k13.m
    replace hx := hx.kp k13
    replace hy := hy.kp k13
    replace zx := zx.kp k13
    replace zy := zy.kp k13
    refine (rcmp_run SA oldRA (H := H13) (by omega) zx zy).mono ?_
    rintro _ H14 ⟨rfl, k14⟩
    have m14 := k14.m
    replace hx := hx.kp k14
    replace hy := hy.kp k14
    replace zx := zx.kp k14
    replace zy := zy.kp k14
    refine ⟨fun h => absurd rfl h, fun _ => ?_⟩
    refine (gcd_kp SA oldA rfl (H := H14) (by omega) hx hy cx cy).mono ?_
    rintro f1 H15 ⟨hf1, k15⟩
    have m15 := k15.m
    replace hx := hx.kp k15
    replace hy := hy.kp k15
    replace zx := zx.kp k15
    replace zy := zy.kp k15
    refine (rgcd_run SA oldRA (H := H15) (by omega) zx zy (by omega) (by omega)).mono ?_
    rintro f2 H16 ⟨hf2, k16⟩
    have m16 := k16.m
    replace hx := hx.kp k16
    replace hy := hy.kp k16
    replace zx := zx.kp k16
    replace zy := zy.kp k16
    replace hf1 := hf1.kp k16
    have ln_f1 : (digits (Int.gcd X Y : Int)).length ≤ 20 := by
      by_cases hX0 : X.natAbs = 0
      · have e : Int.gcd X Y = Y.natAbs := by unfold Int.gcd; rw [hX0, Nat.gcd_zero_left]
        have ay := abs_len (nrm_digits Y)
        rw [val_digits] at ay
        rw [e]; omega
      · have e : Int.gcd X Y ≤ X.natAbs := Nat.gcd_le_left _ (by omega)
        have ax := abs_len (nrm_digits X)
        rw [val_digits] at ax
        have := digits_len_le (v := (Int.gcd X Y : Int)) (w := (X.natAbs : Int)) (by omega) (by omega)
        omega
    refine (ints_true SA rfl (H := H16) hf1 hf2 (by have := ln_f1; omega)).mono ?_
    rintro _ _ ⟨rfl, rfl⟩
    refine (divmod_kp SA oldA rfl (H := H16) (by omega) hx hy).mono ?_
    rintro _ H17 ⟨q1, w1, rfl, hq1, hw1, k17⟩
    have m17 := k17.m
    replace hx := hx.kp k17
    replace hy := hy.kp k17
    replace zx := zx.kp k17
    replace zy := zy.kp k17
    refine (rdivmod_run SA oldRA (H := H17) (by omega) zx zy (by omega) (by omega)).mono ?_
    rintro _ H18 ⟨q2, w2, rfl, hq2, hw2, k18⟩
    have m18 := k18.m
    replace hq1 := hq1.kp k18
    replace hw1 := hw1.kp k18
    have qb : (X / Y).natAbs ≤ X.natAbs := Int.natAbs_ediv_le_natAbs X Y
    have ln_q : (digits (if Y = 0 then 0 else X / Y)).length ≤ 20 := by
      split
      · decide
      · exact len_of (big20 (by omega))
    have ln_w : (digits (if Y = 0 then 0 else X % Y)).length ≤ 20 := by
      split
      · decide
      · rename_i hY0
        have := Int.emod_nonneg X hY0
        have := Int.emod_lt X hY0
        exact len_of (big20 (by omega))
    refine (ints_true SA rfl (H := H18) hq1 hq2 (by have := ln_q; omega)).mono ?_
    rintro _ _ ⟨rfl, rfl⟩
    refine (ints_true SA rfl (H := H18) hw1 hw2 (by have := ln_w; omega)).mono ?_
    rintro _ _ ⟨rfl, rfl⟩
    refine ⟨fun _ => ?_, fun h => absurd rfl h⟩
    refine Cl.of_sum (v := .bool true) (H' := H18) rfl ?_
    exact rfl
end Go.PI

/- THE ARGUMENTS OF FieldIntegers, AND ITS CALLS. -/
open Go.Proofs
namespace Go.PI
open Go.ChangeShapes Go.WideShapes Go.ChangeAt Go.RowKit
theorem int_calls {H : Type} {enc : TypeId × Value → H} {W : World} {fu1 fu2 : Nat} {v0 v1 : Value} {n : Int} {y0 y1 : DataW H × List MemPlace} (hn : In64 n)
    (h0 : DataW.trod enc Tryz.prog W 0 (fun _ => true) true fu1 22 [v0] = some y0) (h1 : DataW.trod enc Tryz.prog W 0 (fun _ => true) true fu2 22 [v1] = some y1) :
    Calls Tryz.prog 3 #[v0, v1, .int .i64 n] W fun e w' => e = .returned (.bool true) ∧ Below W.heap.size W w' := by
  have hz : (⟨0, .nil⟩ : Heap).n = 0 := rfl
  have hlim : lim > 20000000000 := by unfold lim; omega
  obtain ⟨μ1, H1, a, xs, i1, le1, k1, n1, m1, va, sa, ca, la, ia⟩ := imp_ints (imp0 W) (by omega) h0
  obtain ⟨μ2, H2, b, ys, i2, le2, k2, n2, m2, vb, sb, cb, lb, ib⟩ := imp_ints i1 (by omega) h1
  obtain ⟨k, r, H', hc, rfl⟩ := int_law (H := H2) (n := n) (by omega) (sa.mono k2) sb ca cb la lb ia ib hn
  have hC := ctxA_fine
  rcases callF_sim hC (sound hC k) hc (args := #[v0, v1, .int .i64 n]) (.cons (va.mono le2) (.cons vb (.cons (.int _ _) .nil))) i2.hr with ⟨u, w', hrun, -⟩ | ⟨-, hcalls⟩
  · exfalso
    obtain ⟨fn', f1, f2, f3, f4, f5⟩ := hC.fn 3 _ (show ctxA.fn 3 = some c3 from fn3)
    have f5' : ¬ fn'.name = "runtime.NumGoroutine" := by simpa using f5
    simp [callFunc, f1, f5', f4] at hrun
  · have hw : Calls Tryz.prog 3 #[v0, v1, .int .i64 n] W fun e w' => ∃ u, e = .returned u ∧ EffR μ2 H2 W (.bool true) H' u w' := callsIn_wide.1 (hcalls Fence.wide 0 ⟨fun _ => trivial, rfl⟩)
    refine hw.mono ?_
    rintro e w' ⟨u, rfl, hE⟩
    refine ⟨?_, below_of i2.no hE⟩
    obtain ⟨μ', hv, -⟩ := hE
    rw [hv.bool_inv]
end Go.PI

