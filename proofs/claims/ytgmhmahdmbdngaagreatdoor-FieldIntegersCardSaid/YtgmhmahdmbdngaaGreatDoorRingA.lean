/- Own work of the verifier, group RingA: PiRing RingArg. -/
import Derived.Test.YtgmhmahdmbdngaaGreatDoorPiZ
import Derived.Test.YtgmhmahdmbdngaaGreatDoorPiM
import Derived.Test.YtgmhmahdmbdngaaGreatDoorPiO
import Derived.Test.YtgmhmahdmbdngaaGreatDoorPiN
import Derived.Lib.SmallJoins
import Derived.ChangeSlices
set_option linter.all false
set_option linter.deprecated false
/- THE LAW FieldRing. -/
open Go.Proofs
namespace Go.PI
open IM
theorem fn4 : ctx.fn 4 = some c4 := by kernel_rfl
def SA : FuncId → Option (List AV → Heap → Option (AV × Heap)) := fun f => if f = 20 then some sTrue else none
noncomputable def ctxA : Ctx := ctx.plus SA
theorem oldA : OldI SA := ⟨⟨rfl, rfl, rfl, rfl, rfl⟩, rfl, rfl, rfl, rfl, rfl, rfl, rfl, rfl, rfl, rfl, rfl, rfl, rfl, rfl, rfl, rfl, rfl, rfl, rfl, rfl, rfl, rfl, rfl, rfl⟩
theorem pw_big : 1000000000000000000000000000000000000000000000000000000000000000000000000000000000000000000000000000000000000000000000000000000000000000000000000000000000000000000000000000000000000000000000000000000000000000000000000000000000000000000000000000000000000000000000000000000000000000000000000000000000000 ≤ pw 200 := by
  have h : pw 38 = 10000000000000000000000000000000000000000000000000000000000000000000000000000000000000000000000000000000000000000000000000000000000000000000000000000000000000000000000000000000000000000000000000000000000000000000000000000000000000000000000000000000000000000000000000000000000000000000000000000000000000000 := by decide
  have := pw_mono (show 38 ≤ 200 by omega)
  omega
theorem big {X : Int} (h : -100000000000000000000000000000000000000000000000000000000000000000000000000000000000000000000000000000000000000000000000000000000000000000000000000000000000000000000000000000000000000000000000000000000 ≤ X ∧ X ≤ 100000000000000000000000000000000000000000000000000000000000000000000000000000000000000000000000000000000000000000000000000000000000000000000000000000000000000000000000000000000000000000000000000000000) : -pw 200 < X ∧ X < pw 200 := by
  have := pw_big
  omega
theorem cmpI_add (a b c : Int) : cmpI (a + c) (b + c) = cmpI a b := by unfold cmpI; (repeat' split) <;> first | rfl | (exfalso; omega)
theorem cmpI_neg (a b : Int) : cmpI a b = 0 - cmpI b a := by rw [cmpI_swap a b]; omega
theorem cmpI_bd (a b : Int) : -1 ≤ cmpI a b ∧ cmpI a b ≤ 1 := by unfold cmpI; (repeat' split) <;> decide
theorem cmpI_zero {a : Int} : cmpI a 0 = 0 ↔ a = 0 := by unfold cmpI; constructor <;> intro h <;> (repeat' split at *) <;> omega
theorem build3 {C : Ctx} (hT : C.ty = tget) {ρ : Operand → Option AV} {ox oy oz : Operand} {x y z : AV} (hx : ρ ox = some x) (hy : ρ oy = some y) (hz : ρ oz = some z) (cx : x.cells = [x] ∧ x.one = true) (cy : y.cells = [y] ∧ y.one = true) (cz : z.cells = [z] ∧ z.one = true) :
    allocE C ρ (.buildSlice 59 3 #[(0, ox), (1, oy), (2, oz)]) = some (.cells true 22 [x, y, z], fun A => .sl A 0 3 3) := by
  have e1 : t22.zero.cells = [.nils] := rfl
  have e2 : t22.size = 1 := rfl
  simp only [allocE, ty59 hT, t59, ty22 hT, partsE, hx, hy, hz]
  simp [e1, e2, fillE, cx.1, cy.1, cz.1, cx.2, cy.2, cz.2, ones, splice]
theorem seen_cells {H : Heap} {v : AV} {xs : List Int} (h : Seen H v xs) : v.cells = [v] ∧ v.one = true := by
  obtain ⟨h1, -⟩ := h
  cases v <;> simp only [slen] at h1 <;> first | (cases h1; done) | exact ⟨rfl, rfl⟩
theorem short_bound {xs : List Int} (h : ∀ e ∈ xs, In64 e) (hl : xs.length ≤ 5) : -1000000000000000000000000000000000000000000000000000000000000 ≤ val xs ∧ val xs ≤ 1000000000000000000000000000000000000000000000000000000000000 := by
  have h1 := val_bound h
  have h2 := pw_mono hl
  have h3 : pw 5 = 10000000000000000000000000000000000000000 := by decide
  omega
theorem prod_bound {a b m n : Int} (ha : -m ≤ a ∧ a ≤ m) (hb : -n ≤ b ∧ b ≤ n) : -(m * n) ≤ a * b ∧ a * b ≤ m * n := mul_bd ha hb
set_option maxRecDepth 100000
set_option maxHeartbeats 8000000
theorem ring_law {H : Heap} {x y z : AV} {xs ys zs : List Int} (hn : H.n + 100000000 < lim) (sx : Seen H x xs) (sy : Seen H y ys) (sz : Seen H z zs) (cx : Cp x) (cy : Cp y)
    (lx : xs.length ≤ 9223372036854775807) (ly : ys.length ≤ 9223372036854775807) (lz : zs.length ≤ 9223372036854775807) (ix : ∀ e ∈ xs, In64 e) (iy : ∀ e ∈ ys, In64 e) (iz : ∀ e ∈ zs, In64 e) :
    Cl ctxA 4 [x, y, z] H fun r _ => r = .bool true := by
  refine cl_of rfl fn4 ?_
  have hT : ctxA.ty = tget := rfl
  refine ⟨by omega, _, _, build3 hT (x := x) (y := y) (z := z) rfl rfl rfl (seen_cells sx) (seen_cells sy) (seen_cells sz), ?_⟩
  have hp := Heap.get_push (H := H) (b := .cells true 22 [x, y, z]) (by omega)
  have k0 : Kp H (H.push (.cells true 22 [x, y, z])) 1 := ⟨by show H.n ≤ H.n + 1; omega, Nat.le_refl _, fun A hA => by rw [hp, if_neg (by omega)]⟩
  refine (short5_run SA rfl (H := H.push (.cells true 22 [x, y, z])) (b := H.n) (vs := [x, y, z]) (ls := [xs.length, ys.length, zs.length]) (by rw [hp, if_pos rfl]) rfl (fun l hl => by simp at hl; rcases hl with rfl | rfl | rfl <;> assumption) (fun i v l h1 h2 => by
    match i, h1, h2 with
    | 0, h1, h2 => cases h1; cases h2; exact sx.1
    | 1, h1, h2 => cases h1; cases h2; exact sy.1
    | 2, h1, h2 => cases h1; cases h2; exact sz.1
    | i + 3, h1, h2 => simp at h1) (by simp)).mono ?_
  rintro _ H0 ⟨rfl, rfl⟩
  obtain ⟨H0, e0⟩ : ∃ H0, H.push (.cells true 22 [x, y, z]) = H0 := ⟨_, rfl⟩
  rw [e0] at k0 ⊢
  cases hsh : ([xs.length, ys.length, zs.length].all fun l => decide (l ≤ 5)) with
  | false =>
    refine Cl.of_sum (v := .bool true) (H' := H0) rfl ?_
    exact rfl
  | true =>
  simp only [List.all_cons, List.all_nil, Bool.and_true, Bool.and_eq_true, decide_eq_true_eq] at hsh
  obtain ⟨l1, l2, l3⟩ := hsh
  obtain ⟨X, hX⟩ : ∃ X, val xs = X := ⟨_, rfl⟩
  obtain ⟨Y, hY⟩ : ∃ Y, val ys = Y := ⟨_, rfl⟩
  obtain ⟨Z, hZ⟩ : ∃ Z, val zs = Z := ⟨_, rfl⟩
  have bX := short_bound ix l1
  have bY := short_bound iy l2
  have bZ := short_bound iz l3
  rw [hX] at bX
  rw [hY] at bY
  rw [hZ] at bZ
  have hx : IV H0 x xs X := (IV.mk (sx.2 (by omega)) ix (by omega) hX).kp k0
  have hy : IV H0 y ys Y := (IV.mk (sy.2 (by omega)) iy (by omega) hY).kp k0
  have hz : IV H0 z zs Z := (IV.mk (sz.2 (by omega)) iz (by omega) hZ).kp k0
  have m0 := k0.m
  have pXY := prod_bound bX bY
  have pXZ := prod_bound bX bZ
  have pYZ := prod_bound bY bZ
  have pXYZ : -((1000000000000000000000000000000000000000000000000000000000000 * 1000000000000000000000000000000000000000000000000000000000000) * 1000000000000000000000000000000000000000000000000000000000000) ≤ X * Y * Z ∧ X * Y * Z ≤ (1000000000000000000000000000000000000000000000000000000000000 * 1000000000000000000000000000000000000000000000000000000000000) * 1000000000000000000000000000000000000000000000000000000000000 := prod_bound pXY bZ
  have pXYZ' : X * (Y * Z) = X * Y * Z := by rw [Int.mul_assoc]
  have pXs : X * (Y + Z) = X * Y + X * Z := Int.mul_add _ _ _
  refine (add_kp SA oldA rfl (H := H0) (by omega) hy hz).mono ?_
  rintro a1 H1 ⟨ha1, k1⟩
  have m1 := k1.m
  replace hx := hx.kp k1
  replace hy := hy.kp k1
  replace hz := hz.kp k1
  have ia1 : IV H1 a1 (digits (Y + Z)) (Y + Z) := IV.of ha1 (big (by omega))
  refine (mul_kp SA oldA rfl (H := H1) (by omega) hx ia1).mono ?_
  rintro a2 H2 ⟨ha2, k2⟩
  have m2 := k2.m
  replace hx := hx.kp k2
  replace hy := hy.kp k2
  replace hz := hz.kp k2
  replace ia1 := ia1.kp k2
  have ia2 : IV H2 a2 (digits (X * (Y + Z))) (X * (Y + Z)) := IV.of ha2 (big (by omega))
  refine (mul_kp SA oldA rfl (H := H2) (by omega) hx hy).mono ?_
  rintro a3 H3 ⟨ha3, k3⟩
  have m3 := k3.m
  replace hx := hx.kp k3
  replace hy := hy.kp k3
  replace hz := hz.kp k3
  replace ia1 := ia1.kp k3
  replace ia2 := ia2.kp k3
  have ia3 : IV H3 a3 (digits (X * Y)) (X * Y) := IV.of ha3 (big (by omega))
  refine (mul_kp SA oldA rfl (H := H3) (by omega) hx hz).mono ?_
  rintro a4 H4 ⟨ha4, k4⟩
  have m4 := k4.m
  replace hx := hx.kp k4
  replace hy := hy.kp k4
  replace hz := hz.kp k4
  replace ia1 := ia1.kp k4
  replace ia2 := ia2.kp k4
  replace ia3 := ia3.kp k4
  have ia4 : IV H4 a4 (digits (X * Z)) (X * Z) := IV.of ha4 (big (by omega))
  refine (add_kp SA oldA rfl (H := H4) (by omega) ia3 ia4).mono ?_
  rintro a5 H5 ⟨ha5, k5⟩
  have m5 := k5.m
  replace hx := hx.kp k5
  replace hy := hy.kp k5
  replace hz := hz.kp k5
  replace ia1 := ia1.kp k5
  replace ia2 := ia2.kp k5
  replace ia3 := ia3.kp k5
  replace ia4 := ia4.kp k5
  have ia5 : IV H5 a5 (digits (X * Y + X * Z)) (X * Y + X * Z) := IV.of ha5 (big (by omega))
  refine (ints_true SA rfl (H := H5) ia2.sl (by rw [Int.mul_add]; exact ia5.sl) (by have := ia2.len; omega)).mono ?_
  rintro _ _ ⟨rfl, rfl⟩
  refine (mul_kp SA oldA rfl (H := H5) (by omega) hx hy).mono ?_
  rintro b1 H6 ⟨hb1, k6⟩
  have m6 := k6.m
  replace hx := hx.kp k6
  replace hy := hy.kp k6
  replace hz := hz.kp k6
  have ib1 : IV H6 b1 (digits (X * Y)) (X * Y) := IV.of hb1 (big (by omega))
  refine (mul_kp SA oldA rfl (H := H6) (by omega) ib1 hz).mono ?_
  rintro b2 H7 ⟨hb2, k7⟩
  have m7 := k7.m
  replace hx := hx.kp k7
  replace hy := hy.kp k7
  replace hz := hz.kp k7
  replace ib1 := ib1.kp k7
  have ib2 : IV H7 b2 (digits (X * Y * Z)) (X * Y * Z) := IV.of hb2 (big (by omega))
  refine (mul_kp SA oldA rfl (H := H7) (by omega) hy hz).mono ?_
  rintro b3 H8 ⟨hb3, k8⟩
  have m8 := k8.m
  replace hx := hx.kp k8
  replace hy := hy.kp k8
  replace hz := hz.kp k8
  replace ib1 := ib1.kp k8
  replace ib2 := ib2.kp k8
  have ib3 : IV H8 b3 (digits (Y * Z)) (Y * Z) := IV.of hb3 (big (by omega))
  refine (mul_kp SA oldA rfl (H := H8) (by omega) hx ib3).mono ?_
  rintro b4 H9 ⟨hb4, k9⟩
  have m9 := k9.m
  replace hx := hx.kp k9
  replace hy := hy.kp k9
  replace hz := hz.kp k9
  replace ib1 := ib1.kp k9
  replace ib2 := ib2.kp k9
  replace ib3 := ib3.kp k9
  have ib4 : IV H9 b4 (digits (X * (Y * Z))) (X * (Y * Z)) := IV.of hb4 (big (by omega))
  refine (ints_true SA rfl (H := H9) ib2.sl (by rw [Int.mul_assoc]; exact ib4.sl) (by have := ib2.len; omega)).mono ?_
  rintro _ _ ⟨rfl, rfl⟩
  refine (add_kp SA oldA rfl (H := H9) (by omega) hx hy).mono ?_
  rintro c1 H10 ⟨hc1, k10⟩
  have m10 := k10.m
  replace hx := hx.kp k10
  replace hy := hy.kp k10
  replace hz := hz.kp k10
  have ic1 : IV H10 c1 (digits (X + Y)) (X + Y) := IV.of hc1 (big (by omega))
  refine (add_kp SA oldA rfl (H := H10) (by omega) hy hx).mono ?_
  rintro c2 H11 ⟨hc2, k11⟩
  have m11 := k11.m
  replace hx := hx.kp k11
  replace hy := hy.kp k11
  replace hz := hz.kp k11
  replace ic1 := ic1.kp k11
  have ic2 : IV H11 c2 (digits (Y + X)) (Y + X) := IV.of hc2 (big (by omega))
  refine (ints_true SA rfl (H := H11) ic1.sl (by rw [Int.add_comm X Y]; exact ic2.sl) (by have := ic1.len; omega)).mono ?_
  rintro _ _ ⟨rfl, rfl⟩
  refine (sub_kp SA oldA rfl (H := H11) (by omega) hx hy).mono ?_
  rintro d1 H12 ⟨hd1, k12⟩
  have m12 := k12.m
  replace hx := hx.kp k12
  replace hy := hy.kp k12
  replace hz := hz.kp k12
  have id1 : IV H12 d1 (digits (X - Y)) (X - Y) := IV.of hd1 (big (by omega))
  refine (add_kp SA oldA rfl (H := H12) (by omega) id1 hy).mono ?_
  rintro d2 H13 ⟨hd2, k13⟩
  have m13 := k13.m
  replace hx := hx.kp k13
  replace hy := hy.kp k13
  replace hz := hz.kp k13
  replace id1 := id1.kp k13
  have id2 : IV H13 d2 (digits (X - Y + Y)) (X - Y + Y) := IV.of hd2 (big (by omega))
  refine (normalE_kp SA oldA rfl (H := H13) (by omega) hx).mono ?_
  rintro d3 H14 ⟨hd3, k14⟩
  have m14 := k14.m
  replace hx := hx.kp k14
  replace hy := hy.kp k14
  replace hz := hz.kp k14
  replace id1 := id1.kp k14
  replace id2 := id2.kp k14
  have id3 : IV H14 d3 (digits X) X := IV.of hd3 (big (by omega))
  refine (ints_true SA rfl (H := H14) id2.sl (by rw [Int.sub_add_cancel]; exact id3.sl) (by have := id2.len; omega)).mono ?_
  rintro _ _ ⟨rfl, rfl⟩
  refine (add_kp SA oldA rfl (H := H14) (by omega) hx hz).mono ?_
  rintro e1 H15 ⟨he1, k15⟩
  have m15 := k15.m
  replace hx := hx.kp k15
  replace hy := hy.kp k15
  replace hz := hz.kp k15
  have ie1 : IV H15 e1 (digits (X + Z)) (X + Z) := IV.of he1 (big (by omega))
  refine (add_kp SA oldA rfl (H := H15) (by omega) hy hz).mono ?_
  rintro e2 H16 ⟨he2, k16⟩
  have m16 := k16.m
  replace hx := hx.kp k16
  replace hy := hy.kp k16
  replace hz := hz.kp k16
  replace ie1 := ie1.kp k16
  have ie2 : IV H16 e2 (digits (Y + Z)) (Y + Z) := IV.of he2 (big (by omega))
  refine (cmp_kp SA oldA rfl (H := H16) (by omega) ie1 ie2).mono ?_
  rintro _ H17 ⟨rfl, k17⟩
  have m17 := k17.m
  replace hx := hx.kp k17
  replace hy := hy.kp k17
  replace hz := hz.kp k17
  replace ie1 := ie1.kp k17
  replace ie2 := ie2.kp k17
  refine (cmp_kp SA oldA rfl (H := H17) (by omega) hx hy).mono ?_
  rintro _ H18 ⟨rfl, k18⟩
  have m18 := k18.m
  replace hx := hx.kp k18
  replace hy := hy.kp k18
  replace hz := hz.kp k18
  refine ⟨fun h => absurd (cmpI_add X Y Z) h, fun _ => ?_⟩
  refine (cmp_kp SA oldA rfl (H := H18) (by omega) hx hy).mono ?_
  rintro _ H19 ⟨rfl, k19⟩
  have m19 := k19.m
  replace hx := hx.kp k19
  replace hy := hy.kp k19
  replace hz := hz.kp k19
  refine (cmp_kp SA oldA rfl (H := H19) (by omega) hy hx).mono ?_
  rintro _ H20 ⟨rfl, k20⟩
  have m20 := k20.m
  replace hx := hx.kp k20
  replace hy := hy.kp k20
  replace hz := hz.kp k20
  have bc := cmpI_bd Y X
  refine ⟨⟨by omega, by omega⟩, ?_⟩
  refine ⟨fun h => absurd (cmpI_neg X Y) h, fun _ => ?_⟩
  refine (divmod_kp SA oldA rfl (H := H20) (by omega) hx hy).mono ?_
  rintro _ H21 ⟨q, w, rfl, hq, hw, k21⟩
  have m21 := k21.m
  replace hx := hx.kp k21
  replace hy := hy.kp k21
  replace hz := hz.kp k21
  have inil : IV H21 .nils [] 0 := ⟨rfl, fun e he => (List.not_mem_nil he).elim, by simp, rfl⟩
  refine (cmp_kp SA oldA rfl (H := H21) (by omega) hy inil).mono ?_
  rintro _ H22 ⟨rfl, k22⟩
  have m22 := k22.m
  replace hx := hx.kp k22
  replace hy := hy.kp k22
  replace hz := hz.kp k22
  replace inil := inil.kp k22
  replace hq := hq.kp k22
  replace hw := hw.kp k22
  have fin : ∀ (β : Bool) (H' : Heap), β = true → AV.bool β = .bool true := fun β H' h => by rw [h]
  refine ⟨fun hc => ?_, fun hc => ?_⟩
  · have hY0 : Y = 0 := cmpI_zero.1 hc
    rw [if_pos hY0] at hq hw
    refine ⟨fun _ => ?_, fun h => absurd (if_pos hY0) h⟩
    refine ⟨_, len_sl hT (v := q) rfl hq, ?_⟩
    refine ⟨_, len_sl hT (v := w) rfl hw, ?_⟩
    refine ⟨⟨by decide, by decide⟩, ?_⟩
    refine ⟨fun _ => ?_, fun h => absurd rfl h⟩
    refine Cl.of_sum (v := .bool true) (H' := H22) rfl ?_
    exact rfl
  · have hY0 : Y ≠ 0 := fun h => hc (cmpI_zero.2 h)
    rw [if_neg hY0] at hq hw
    have em1 := Int.emod_nonneg X hY0
    have em2 := Int.emod_lt X hY0
    have em3 := Int.mul_ediv_add_emod X Y
    have em4 : X / Y * Y = X - X % Y := by rw [Int.mul_comm]; omega
    have eq1 : (X / Y).natAbs ≤ X.natAbs := Int.natAbs_ediv_le_natAbs X Y
    obtain ⟨G, hG⟩ : ∃ G : Int, (Int.gcd X Y : Int) = G := ⟨_, rfl⟩
    have gd1 : G ∣ X := by rw [← hG]; exact Int.gcd_dvd_left X Y
    have gd2 : G ∣ Y := by rw [← hG]; exact Int.gcd_dvd_right X Y
    have gp : 0 ≤ G := by rw [← hG]; exact Int.natCast_nonneg _
    have gne : G ≠ 0 := fun h => by rw [h] at gd2; exact hY0 (Int.zero_dvd.1 gd2)
    have gle : G ≤ (Y.natAbs : Int) := Int.le_of_dvd (by omega) (Int.dvd_natAbs.2 gd2)
    have gm1 : X % G = 0 := Int.emod_eq_zero_of_dvd gd1
    have gm2 : Y % G = 0 := Int.emod_eq_zero_of_dvd gd2
    have iq : IV H22 q (digits (X / Y)) (X / Y) := IV.of hq (big (by omega))
    have iw : IV H22 w (digits (X % Y)) (X % Y) := IV.of hw (big (by omega))
    refine (cmp_kp SA oldA rfl (H := H22) (by omega) hy inil).mono ?_
    rintro _ H23 ⟨rfl, k23⟩
    have m23 := k23.m
    replace hx := hx.kp k23
    replace hy := hy.kp k23
    replace iq := iq.kp k23
    replace iw := iw.kp k23
    replace inil := inil.kp k23
    refine ⟨fun hneg => ?_, fun hpos => ?_⟩
    · have hYn : Y < 0 := by
        unfold cmpI at hneg
        split at hneg
        · assumption
        · split at hneg <;> omega
      refine (sub_kp SA oldA rfl (H := H23) (by omega) inil hy).mono ?_
      rintro sz H24 ⟨hsz, k24⟩
      have m24 := k24.m
      replace hx := hx.kp k24
      replace hy := hy.kp k24
      replace iq := iq.kp k24
      replace iw := iw.kp k24
      replace inil := inil.kp k24
      have isz : IV H24 sz (digits (0 - Y)) (0 - Y) := IV.of hsz (big (by omega))
      refine (gcd_kp SA oldA rfl (H := H24) (by omega) hx hy cx cy).mono ?_
      rw [hG]
      rintro g H25 ⟨hg, k25⟩
      have m25 := k25.m
      replace hx := hx.kp k25
      replace hy := hy.kp k25
      replace iq := iq.kp k25
      replace iw := iw.kp k25
      replace inil := inil.kp k25
      replace isz := isz.kp k25
      have ig : IV H25 g (digits G) G := IV.of hg (big (by omega))
      refine (divmod_kp SA oldA rfl (H := H25) (by omega) hx ig).mono ?_
      rintro _ H26 ⟨q1, s1, rfl, -, hs1, k26⟩
      rw [if_neg gne, gm1] at hs1
      have m26 := k26.m
      replace hx := hx.kp k26
      replace hy := hy.kp k26
      replace iq := iq.kp k26
      replace iw := iw.kp k26
      replace inil := inil.kp k26
      replace isz := isz.kp k26
      replace ig := ig.kp k26
      refine (divmod_kp SA oldA rfl (H := H26) (by omega) hy ig).mono ?_
      rintro _ H27 ⟨q2, s2, rfl, -, hs2, k27⟩
      rw [if_neg gne, gm2] at hs2
      have m27 := k27.m
      replace hx := hx.kp k27
      replace hy := hy.kp k27
      replace iq := iq.kp k27
      replace iw := iw.kp k27
      replace inil := inil.kp k27
      replace isz := isz.kp k27
      replace ig := ig.kp k27
      replace hs1 := hs1.kp k27
      refine ⟨fun _ => ?_, fun h => absurd (if_neg hY0) h⟩
      refine ⟨fun _ => ?_, fun h => absurd (if_neg gne) h⟩
      refine ⟨fun _ => ?_, fun h => absurd (if_neg gne) h⟩
      refine (mul_kp SA oldA rfl (H := H27) (by omega) iq hy).mono ?_
      rintro f1 H28 ⟨hf1, k28⟩
      have m28 := k28.m
      replace hx := hx.kp k28
      replace hy := hy.kp k28
      replace iq := iq.kp k28
      replace iw := iw.kp k28
      replace inil := inil.kp k28
      replace isz := isz.kp k28
      replace ig := ig.kp k28
      replace hs1 := hs1.kp k28
      replace hs2 := hs2.kp k28
      have if1 : IV H28 f1 (digits (X / Y * Y)) (X / Y * Y) := IV.of hf1 (big (by omega))
      refine (add_kp SA oldA rfl (H := H28) (by omega) if1 iw).mono ?_
      rintro f2 H29 ⟨hf2, k29⟩
      have m29 := k29.m
      replace hx := hx.kp k29
      replace hy := hy.kp k29
      replace iq := iq.kp k29
      replace iw := iw.kp k29
      replace inil := inil.kp k29
      replace isz := isz.kp k29
      replace ig := ig.kp k29
      replace if1 := if1.kp k29
      replace hs1 := hs1.kp k29
      replace hs2 := hs2.kp k29
      have if2 : IV H29 f2 (digits (X / Y * Y + X % Y)) (X / Y * Y + X % Y) := IV.of hf2 (big (by omega))
      refine (normalE_kp SA oldA rfl (H := H29) (by omega) hx).mono ?_
      rintro f3 H30 ⟨hf3, k30⟩
      have m30 := k30.m
      replace hx := hx.kp k30
      replace hy := hy.kp k30
      replace iq := iq.kp k30
      replace iw := iw.kp k30
      replace inil := inil.kp k30
      replace isz := isz.kp k30
      replace ig := ig.kp k30
      replace if1 := if1.kp k30
      replace if2 := if2.kp k30
      replace hs1 := hs1.kp k30
      replace hs2 := hs2.kp k30
      have if3 : IV H30 f3 (digits (X)) (X) := IV.of hf3 (big (by omega))
      refine (ints_true SA rfl (H := H30) if2.sl (by rw [show X / Y * Y + X % Y = X by omega]; exact if3.sl) (by have := if2.len; omega)).mono ?_
      rintro _ _ ⟨rfl, rfl⟩
      refine (cmp_kp SA oldA rfl (H := H30) (by omega) iw inil).mono ?_
      rintro _ H31 ⟨rfl, k31⟩
      have m31 := k31.m
      replace hx := hx.kp k31
      replace hy := hy.kp k31
      replace iq := iq.kp k31
      replace iw := iw.kp k31
      replace inil := inil.kp k31
      replace isz := isz.kp k31
      replace ig := ig.kp k31
      replace if1 := if1.kp k31
      replace if2 := if2.kp k31
      replace if3 := if3.kp k31
      replace hs1 := hs1.kp k31
      replace hs2 := hs2.kp k31
      have c1 : 0 ≤ cmpI (X % Y) 0 := by unfold cmpI; rw [if_neg (by omega)]; split <;> decide
      refine ⟨fun _ => ?_, fun h => absurd h (by omega)⟩
      refine (cmp_kp SA oldA rfl (H := H31) (by omega) iw isz).mono ?_
      rintro _ H32 ⟨rfl, k32⟩
      have m32 := k32.m
      replace hx := hx.kp k32
      replace hy := hy.kp k32
      replace iq := iq.kp k32
      replace iw := iw.kp k32
      replace inil := inil.kp k32
      replace isz := isz.kp k32
      replace ig := ig.kp k32
      replace if1 := if1.kp k32
      replace if2 := if2.kp k32
      replace if3 := if3.kp k32
      replace hs1 := hs1.kp k32
      replace hs2 := hs2.kp k32
      have c2 : cmpI (X % Y) (0 - Y) = -1 := by unfold cmpI; rw [if_pos (by omega)]
      refine ⟨fun _ => ?_, fun h => absurd h (by omega)⟩
      refine ⟨_, len_sl hT (v := s1) rfl hs1, ?_⟩
      refine ⟨_, len_sl hT (v := s2) rfl hs2, ?_⟩
      refine ⟨⟨by decide, by decide⟩, ?_⟩
      refine ⟨fun _ => ?_, fun h => absurd rfl h⟩
      refine Cl.of_sum (v := .bool true) (H' := H32) rfl ?_
      exact rfl
    · have hYn : 0 < Y := by
        unfold cmpI at hpos
        split at hpos
        · omega
        · omega
      refine (gcd_kp SA oldA rfl (H := H23) (by omega) hx hy cx cy).mono ?_
      rw [hG]
      rintro g H24 ⟨hg, k24⟩
      have m24 := k24.m
      replace hx := hx.kp k24
      replace hy := hy.kp k24
      replace iq := iq.kp k24
      replace iw := iw.kp k24
      replace inil := inil.kp k24
      have ig : IV H24 g (digits G) G := IV.of hg (big (by omega))
      refine (divmod_kp SA oldA rfl (H := H24) (by omega) hx ig).mono ?_
      rintro _ H25 ⟨q1, s1, rfl, -, hs1, k25⟩
      rw [if_neg gne, gm1] at hs1
      have m25 := k25.m
      replace hx := hx.kp k25
      replace hy := hy.kp k25
      replace iq := iq.kp k25
      replace iw := iw.kp k25
      replace inil := inil.kp k25
      replace ig := ig.kp k25
      refine (divmod_kp SA oldA rfl (H := H25) (by omega) hy ig).mono ?_
      rintro _ H26 ⟨q2, s2, rfl, -, hs2, k26⟩
      rw [if_neg gne, gm2] at hs2
      have m26 := k26.m
      replace hx := hx.kp k26
      replace hy := hy.kp k26
      replace iq := iq.kp k26
      replace iw := iw.kp k26
      replace inil := inil.kp k26
      replace ig := ig.kp k26
      replace hs1 := hs1.kp k26
      refine ⟨fun _ => ?_, fun h => absurd (if_neg hY0) h⟩
      refine ⟨fun _ => ?_, fun h => absurd (if_neg gne) h⟩
      refine ⟨fun _ => ?_, fun h => absurd (if_neg gne) h⟩
      refine (mul_kp SA oldA rfl (H := H26) (by omega) iq hy).mono ?_
      rintro f1 H27 ⟨hf1, k27⟩
      have m27 := k27.m
      replace hx := hx.kp k27
      replace hy := hy.kp k27
      replace iq := iq.kp k27
      replace iw := iw.kp k27
      replace inil := inil.kp k27
      replace ig := ig.kp k27
      replace hs1 := hs1.kp k27
      replace hs2 := hs2.kp k27
      have if1 : IV H27 f1 (digits (X / Y * Y)) (X / Y * Y) := IV.of hf1 (big (by omega))
      refine (add_kp SA oldA rfl (H := H27) (by omega) if1 iw).mono ?_
      rintro f2 H28 ⟨hf2, k28⟩
      have m28 := k28.m
      replace hx := hx.kp k28
      replace hy := hy.kp k28
      replace iq := iq.kp k28
      replace iw := iw.kp k28
      replace inil := inil.kp k28
      replace ig := ig.kp k28
      replace if1 := if1.kp k28
      replace hs1 := hs1.kp k28
      replace hs2 := hs2.kp k28
      have if2 : IV H28 f2 (digits (X / Y * Y + X % Y)) (X / Y * Y + X % Y) := IV.of hf2 (big (by omega))
      refine (normalE_kp SA oldA rfl (H := H28) (by omega) hx).mono ?_
      rintro f3 H29 ⟨hf3, k29⟩
      have m29 := k29.m
      replace hx := hx.kp k29
      replace hy := hy.kp k29
      replace iq := iq.kp k29
      replace iw := iw.kp k29
      replace inil := inil.kp k29
      replace ig := ig.kp k29
      replace if1 := if1.kp k29
      replace if2 := if2.kp k29
      replace hs1 := hs1.kp k29
      replace hs2 := hs2.kp k29
      have if3 : IV H29 f3 (digits (X)) (X) := IV.of hf3 (big (by omega))
      refine (ints_true SA rfl (H := H29) if2.sl (by rw [show X / Y * Y + X % Y = X by omega]; exact if3.sl) (by have := if2.len; omega)).mono ?_
      rintro _ _ ⟨rfl, rfl⟩
      refine (cmp_kp SA oldA rfl (H := H29) (by omega) iw inil).mono ?_
      rintro _ H30 ⟨rfl, k30⟩
      have m30 := k30.m
      replace hx := hx.kp k30
      replace hy := hy.kp k30
      replace iq := iq.kp k30
      replace iw := iw.kp k30
      replace inil := inil.kp k30
      replace ig := ig.kp k30
      replace if1 := if1.kp k30
      replace if2 := if2.kp k30
      replace if3 := if3.kp k30
      replace hs1 := hs1.kp k30
      replace hs2 := hs2.kp k30
      have c1 : 0 ≤ cmpI (X % Y) 0 := by unfold cmpI; rw [if_neg (by omega)]; split <;> decide
      refine ⟨fun _ => ?_, fun h => absurd h (by omega)⟩
      refine (cmp_kp SA oldA rfl (H := H30) (by omega) iw hy).mono ?_
      rintro _ H31 ⟨rfl, k31⟩
      have m31 := k31.m
      replace hx := hx.kp k31
      replace hy := hy.kp k31
      replace iq := iq.kp k31
      replace iw := iw.kp k31
      replace inil := inil.kp k31
      replace ig := ig.kp k31
      replace if1 := if1.kp k31
      replace if2 := if2.kp k31
      replace if3 := if3.kp k31
      replace hs1 := hs1.kp k31
      replace hs2 := hs2.kp k31
      have c2 : cmpI (X % Y) (Y) = -1 := by unfold cmpI; rw [if_pos (by omega)]
      refine ⟨fun _ => ?_, fun h => absurd h (by omega)⟩
      refine ⟨_, len_sl hT (v := s1) rfl hs1, ?_⟩
      refine ⟨_, len_sl hT (v := s2) rfl hs2, ?_⟩
      refine ⟨⟨by decide, by decide⟩, ?_⟩
      refine ⟨fun _ => ?_, fun h => absurd rfl h⟩
      refine Cl.of_sum (v := .bool true) (H' := H31) rfl ?_
      exact rfl
end Go.PI

/- THE ARGUMENTS OF FieldRing, AND ITS CALLS. -/
open Go.Proofs
namespace Go.PI
open Go.ChangeShapes Go.WideShapes Go.ChangeAt Go.RowKit
theorem ctxA_fine : Ctx.Ok Tryz.prog ctxA := by
  obtain ⟨H, h⟩ := isTrue_some run20
  refine Ctx.plus_ok2 (C := ctx) ctx_ok (T := SA) fun f s hf => ?_
  unfold SA at hf
  split at hf
  · rename_i he
    subst he
    cases hf
    exact .inr (closed_true ctx1_ok (quick_sim h))
  · cases hf
theorem nc3' : Tryz.prog.cellsOf 3 = 1 := by kernel_rfl
theorem cp_of {μ : M} {v : AV} {A : Option Addr} {L C : Nat} (h : VR μ v (.slice A L C)) (hLC : L ≤ C) : Cp v := by
  cases h <;> first | exact hLC | trivial
/-- a slice of integers that came in -/
theorem imp_ints {H : Type} {enc : TypeId × Value → H} {W : World} {μ : M} {Hp : Heap} (h : Imp W μ Hp) (hn : Hp.n + 2 < lim) {fuel : Nat} {v : Value} {y : DataW H × List MemPlace}
    (h1 : DataW.trod enc Tryz.prog W 0 (fun _ => true) true fuel 22 [v] = some y) :
    ∃ (μ' : M) (H' : Heap) (b : AV) (xs : List Int), Imp W μ' H' ∧ M.le μ μ' ∧ (∀ B, B < Hp.n → H'.get B = Hp.get B) ∧ Hp.n ≤ H'.n ∧ H'.n ≤ Hp.n + 1 ∧ VR μ' b v ∧ Seen H' b xs ∧ Cp b ∧ xs.length ≤ 9223372036854775807 ∧ ∀ e ∈ xs, In64 e := by
  have hm : maxLen = 9223372036854775807 := rfl
  rcases open_ints Tryz.underlying22 Tryz.underlying3 nc3' h1 with ⟨hcs, -⟩ | ⟨a, len, cap, zs, hcs, -, hl, hc, hz, -, hcell, hwf⟩
  · obtain rfl : v = .slice none 0 0 := by simpa using hcs
    exact ⟨μ, Hp, .nils, [], h, M.le.refl _, fun _ _ => rfl, Nat.le_refl _, by omega, .nils, ⟨rfl, fun _ => rfl⟩, trivial, by simp, fun e he => (List.not_mem_nil he).elim⟩
  · obtain rfl : v = .slice (some a) len cap := by simpa using hcs
    simp only [if_true] at hz
    obtain ⟨μ', H', v', g1, g2, g3, g4, g5, g6, g7⟩ := imp_slice (A := some a) (L := len) (C := cap) (Z := zs) h (by omega) hl (by omega) (fun e => by cases e) (fun a' ha' c hcl => by
      cases ha'
      exact hcell c (by omega))
    refine ⟨μ', H', v', _, g1, g2, g3, g4, g5, g6, g7, cp_of g6 hl, by simp; omega, fun e he => ?_⟩
    have := hwf e (List.mem_of_mem_take he)
    simp only [Lit.wf, Bool.and_eq_true, decide_eq_true_eq] at this
    have e1 : IntKind.min .i64 = -9223372036854775808 := by decide
    have e2 : IntKind.max .i64 = 9223372036854775807 := by decide
    rw [e1, e2] at this
    unfold In64
    omega

theorem ring_calls {H : Type} {enc : TypeId × Value → H} {W : World} {fu1 fu2 fu3 : Nat} {v0 v1 v2 : Value} {y0 y1 y2 : DataW H × List MemPlace}
    (h0 : DataW.trod enc Tryz.prog W 0 (fun _ => true) true fu1 22 [v0] = some y0) (h1 : DataW.trod enc Tryz.prog W 0 (fun _ => true) true fu2 22 [v1] = some y1) (h2 : DataW.trod enc Tryz.prog W 0 (fun _ => true) true fu3 22 [v2] = some y2) :
    Calls Tryz.prog 4 #[v0, v1, v2] W fun e w' => e = .returned (.bool true) ∧ Below W.heap.size W w' := by
  have hz : (⟨0, .nil⟩ : Heap).n = 0 := rfl
  have hlim : lim > 200000000 := by unfold lim; omega
  obtain ⟨μ1, H1, a, xs, i1, le1, k1, n1, m1, va, sa, ca, la, ia⟩ := imp_ints (imp0 W) (by omega) h0
  obtain ⟨μ2, H2, b, ys, i2, le2, k2, n2, m2, vb, sb, cb, lb, ib⟩ := imp_ints i1 (by omega) h1
  obtain ⟨μ3, H3, c, zs, i3, le3, k3, n3, m3, vc, sc, cc, lc, ic⟩ := imp_ints i2 (by omega) h2
  obtain ⟨k, r, H', hc, rfl⟩ := ring_law (H := H3) (by omega) ((sa.mono k2).mono k3) (sb.mono k3) sc ca cb la lb lc ia ib ic
  have hC := ctxA_fine
  rcases callF_sim hC (sound hC k) hc (args := #[v0, v1, v2]) (.cons (va.mono (le2.trans le3)) (.cons (vb.mono le3) (.cons vc .nil))) i3.hr with ⟨u, w', hrun, -⟩ | ⟨-, hcalls⟩
  · exfalso
    obtain ⟨fn', f1, f2, f3, f4, f5⟩ := hC.fn 4 _ (show ctxA.fn 4 = some c4 from fn4)
    have f5' : ¬ fn'.name = "runtime.NumGoroutine" := by simpa using f5
    simp [callFunc, f1, f5', f4] at hrun
  · have hw : Calls Tryz.prog 4 #[v0, v1, v2] W fun e w' => ∃ u, e = .returned u ∧ EffR μ3 H3 W (.bool true) H' u w' := callsIn_wide.1 (hcalls Fence.wide 0 ⟨fun _ => trivial, rfl⟩)
    refine hw.mono ?_
    rintro e w' ⟨u, rfl, hE⟩
    refine ⟨?_, below_of i3.no hE⟩
    obtain ⟨μ', hv, -⟩ := hE
    rw [hv.bool_inv]
end Go.PI

