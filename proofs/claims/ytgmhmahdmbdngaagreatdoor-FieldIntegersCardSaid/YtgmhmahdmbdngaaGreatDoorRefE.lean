/- Own work of the verifier, group RefE: PiRef7. -/
import Derived.Test.YtgmhmahdmbdngaaGreatDoorRefD
set_option linter.all false
set_option linter.deprecated false
/- The reference's DivMod and Gcd. -/
open Go.Proofs
namespace Go.PI
open IM
theorem fn38 : ctx.fn 38 = some c38 := by kernel_rfl
set_option maxRecDepth 10000
set_option maxHeartbeats 4000000
variable (S : FuncId → Option (List AV → Heap → Option (AV × Heap)))
theorem pw10 {X : Int} (h : (digits X).length ≤ 10) : -pw 10 < X ∧ X < pw 10 := by
  have h1 := (abs_dig X).val.2
  have h2 := abs_len (nrm_digits X)
  rw [val_digits] at h1 h2
  rw [h2] at h1
  have := pw_mono h
  omega
theorem pw20 : pw 20 = 100000000000000000000000000000000000000000000000000000000000000000000000000000000 * pw 10 := by decide
theorem rdivmod_run (hR : OldR S) {H : Heap} {x y : AV} {xs ys : List Int} {X Y : Int} (hn : H.n + 30000000 < lim) (hx : SV H x xs X) (hy : SV H y ys Y) (lX : (digits X).length ≤ 10) (lY : (digits Y).length ≤ 10) :
    Cl (ctx.plus S) 38 [x, y] H fun r H' => ∃ q w, r = .tup [q, w, iv (if Y = 0 then 12 else 0)] ∧ Sl H' q (digits (if Y = 0 then 0 else X / Y)) ∧ Sl H' w (digits (if Y = 0 then 0 else X % Y)) ∧ Kp H H' 4000000 := by
  refine cl_of hR.h38 fn38 ?_
  have hT : (ctx.plus S).ty = tget := rfl
  have lx := hx.len
  have ly := hy.len
  have bX := pw10 lX
  have bY := pw10 lY
  have p20 := pw20
  have p10 := pw_pos 10
  refine (rnormal_run S hR.h25 hR.h110 hR.h111 hR.h112 (by omega) hx.sl (by omega) hx.in64).mono ?_
  rw [hx.val]
  rintro a H1 ⟨hM1, hn1⟩
  have k1 := hM1.kp (c := 120) (by omega)
  have k1m := k1.m
  refine (rnormal_run S hR.h25 hR.h110 hR.h111 hR.h112 (H := H1) (by omega) (hy.sl.kp k1) (by omega) hy.in64).mono ?_
  rw [hy.val]
  rintro b H2 ⟨hM2, hn2⟩
  have k2 := hM2.kp (c := 120) (by omega)
  have k2m := k2.m
  have ra : RV H2 a (digits X) := hM1.rv.kp k2
  have rb : RV H2 b (digits Y) := hM2.rv
  refine ⟨_, len_sl hT (v := b) rfl rb.sl, ?_⟩
  refine ⟨fun h0 => ?_, fun h0 => ?_⟩
  · have hY : Y = 0 := digits_nil.1 (List.eq_nil_of_length_eq_zero (by omega))
    subst hY
    exact ⟨.nils, .nils, rfl, rfl, rfl, k1.trans k2 (by omega)⟩
  have hY0 : Y ≠ 0 := fun h => h0 (by rw [h]; rfl)
  rw [if_neg hY0, if_neg hY0, if_neg hY0]
  obtain ⟨d1, d2, d3, d4, d5, d6, d7, d8, d9⟩ := div_signs (X := X) hY0
  refine (rsize_run S hR.h119 hR.h122 hR.h112 hR.h111 (H := H2) (by omega) ra (by omega) (nrm_digits _)).mono ?_
  rw [val_digits]
  rintro p H3 ⟨hM3, hn3⟩
  have k3 := hM3.kp hn3
  have k3m := k3.m
  refine (rsize_run S hR.h119 hR.h122 hR.h112 hR.h111 (H := H3) (by omega) (rb.kp k3) (by omega) (nrm_digits _)).mono ?_
  rw [val_digits]
  rintro s H4 ⟨hM4, hn4⟩
  have k4 := hM4.kp hn4
  have k4m := k4.m
  have aX := abs_len (nrm_digits X)
  have aY := abs_len (nrm_digits Y)
  rw [val_digits] at aX aY
  refine (rdivide_run S hR (H := H4) (by omega) (hM3.toSl.kp k4) hM4.toSl (by omega) (by omega) (abs_dig X) (abs_dig Y) (nrm_digits _).2 (by rw [val_digits]; omega)).mono ?_
  rw [val_digits, val_digits]
  rintro _ H5 ⟨q, w, rfl, hq, hw, k5⟩
  have k5m := k5.m
  obtain ⟨Q, hQ⟩ : ∃ Q, (X.natAbs : Int) / (Y.natAbs : Int) = Q := ⟨_, rfl⟩
  obtain ⟨W, hW⟩ : ∃ W, (X.natAbs : Int) % (Y.natAbs : Int) = W := ⟨_, rfl⟩
  rw [hQ] at hq d4 d5 d6 d7 d8 d9
  rw [hW] at hw d1 d2 d3 d6 d7 d8 d9
  have hW0 : 0 ≤ W := by rw [← hW]; exact Int.emod_nonneg _ (by omega)
  have hWl : W ≤ (Y.natAbs : Int) := by rw [← hW]; exact Int.le_of_lt (Int.emod_lt_of_pos _ (by omega))
  have hQ0 : 0 ≤ Q := by rw [← hQ]; exact Int.ediv_nonneg (by omega) (by omega)
  have hQl : Q ≤ (X.natAbs : Int) := by rw [← hQ]; exact Int.ediv_le_self _ (by omega)
  have kk : Kp H H5 3900000 := k1.trans (k2.trans (k3.trans (k4.trans k5 (Nat.le_refl _)) (Nat.le_refl _)) (Nat.le_refl _)) (by omega)
  have kkm := kk.m
  have ra5 : RV H5 a (digits X) := ((ra.kp k3).kp k4).kp k5
  have rb5 : RV H5 b (digits Y) := ((rb.kp k3).kp k4).kp k5
  -- the end, when the remainder is right and the quotient is so but for the divisor's sign
  have fin : ∀ (H6 : Heap) (q' w' : AV) (Q' : Int), Kp H5 H6 5000 → Sl H6 q' (digits Q') → -pw 20 < Q' ∧ Q' < pw 20 → Sl H6 w' (digits (X % Y)) → (0 < Y → X / Y = Q') → (Y < 0 → X / Y = -Q') → RV H6 b (digits Y) →
      Cl (ctx.plus S) 122 [b] H6 fun r H7 => r = .bool (decide (Y < 0)) ∧ H6 = H7 ∧ (Y < 0 → Cl (ctx.plus S) 115 [q'] H6 fun r2 H8 => Sl H8 r2 (digits (X / Y)) ∧ Sl H8 w' (digits (X % Y)) ∧ Kp H H8 4000000) ∧ (¬ Y < 0 → Sl H6 q' (digits (X / Y)) ∧ Kp H H6 4000000) := by
    intro H6 q' w' Q' k6 h1 hb h2 h3 h4 h5
    have k6m := k6.m
    refine (rnegative_run S hR.h122 (H := H6) h5.sl (by omega) (nrm_digits Y)).mono ?_
    rw [val_digits]
    rintro _ _ ⟨rfl, rfl⟩
    refine ⟨rfl, rfl, fun hneg => ?_, fun hpos => ⟨by rw [h3 (by omega)]; exact h1, kk.trans k6 (by omega)⟩⟩
    refine (rneg_run S hR (H := H6) (by omega) (SV.of h1 hb)).mono ?_
    rintro r2 H8 ⟨hM8, hn8⟩
    have k8 := hM8.kp hn8
    exact ⟨by rw [h4 hneg]; exact hM8.toSl, h2.kp k8, kk.trans (k6.trans k8 (Nat.le_refl _)) (by omega)⟩
  refine (rnegative_run S hR.h122 (H := H5) ra5.sl (by omega) (nrm_digits X)).mono ?_
  rw [val_digits]
  rintro _ _ ⟨rfl, rfl⟩
  by_cases hX : X < 0
  · rw [decide_eq_true hX]
    have svQ : SV H5 q (digits Q) Q := SV.of hq.sl (by omega)
    have svW : SV H5 w (digits W) W := SV.of hw.sl (by omega)
    refine (rneg_run S hR (H := H5) (by omega) svQ).mono ?_
    rintro q1 H6 ⟨hM6, hn6⟩
    have k6 := hM6.kp hn6
    have k6m := k6.m
    refine (rneg_run S hR (H := H6) (by omega) (svW.kp k6)).mono ?_
    rintro w1 H7 ⟨hM7, hn7⟩
    have k7 := hM7.kp hn7
    have k7m := k7.m
    have hq1 : Sl H7 q1 (digits (-Q)) := hM6.toSl.kp k7
    have hw1 : Sl H7 w1 (digits (-W)) := hM7.toSl
    have rb7 : RV H7 b (digits Y) := (rb5.kp k6).kp k7
    refine ⟨_, len_sl hT (v := w1) rfl hw1, ?_⟩
    refine ⟨fun hl => ?_, fun hl => ?_⟩
    · have hWn : W ≠ 0 := fun h => by
        rw [h, show digits (-(0:Int)) = [] from rfl] at hl
        simp at hl
      refine ⟨by omega, _, _, rfl, ?_⟩
      have hp := Heap.get_push (H := H7) (b := .cells true 3 [iv 1]) (by omega)
      have kp : Kp H7 (H7.push (.cells true 3 [iv 1])) 1 := ⟨by show H7.n ≤ H7.n + 1; omega, Nat.le_refl _, fun A hA => by rw [hp, if_neg (by omega)]⟩
      have kpm := kp.m
      have sv1 : SV (H7.push (.cells true 3 [iv 1])) (.sl H7.n 0 1 1) [1] 1 := ⟨⟨rfl, true, 3, [iv 1], by rw [hp, if_pos rfl], by simp, rfl⟩, fun z hz => by
        have : z = 1 := by simpa using hz
        subst this; unfold In64; omega, by simp, by simp [val], by decide⟩
      refine (rsub_run S hR (H := H7.push (.cells true 3 [iv 1])) (by omega) (SV.of (hq1.kp kp) (by omega)) sv1).mono ?_
      rintro q2 H8 ⟨hM8, hn8⟩
      have k8 := hM8.kp hn8
      have k8m := k8.m
      refine (rsize_run S hR.h119 hR.h122 hR.h112 hR.h111 (H := H8) (by omega) ((rb7.kp kp).kp k8) (by omega) (nrm_digits _)).mono ?_
      rw [val_digits]
      rintro s2 H9 ⟨hM9, hn9⟩
      have k9 := hM9.kp hn9
      have k9m := k9.m
      refine (radd_run S hR (H := H9) (by omega) (SV.of (((hw1.kp kp).kp k8).kp k9) (by omega)) (SV.of hM9.toSl (by omega))).mono ?_
      rintro w2 H10 ⟨hM10, hn10⟩
      have k10 := hM10.kp hn10
      have k10m := k10.m
      have hw2 : Sl H10 w2 (digits (X % Y)) := by
        have := hM10.toSl
        rwa [show -W + (Y.natAbs : Int) = X % Y by rw [d3 hX hWn]; omega] at this
      refine (fin H10 q2 w2 (-Q - 1) (k6.trans (k7.trans (kp.trans (k8.trans (k9.trans k10 (Nat.le_refl _)) (Nat.le_refl _)) (Nat.le_refl _)) (Nat.le_refl _)) (by omega)) ((hM8.toSl.kp k9).kp k10) (by omega) hw2 (fun h => by rw [d8 hX h hWn]; omega) (fun h => by rw [d9 hX h hWn]; omega) ((((rb7.kp kp).kp k8).kp k9).kp k10)).mono ?_
      rintro _ _ ⟨rfl, rfl, f1, f2⟩
      by_cases hY : Y < 0
      · rw [decide_eq_true hY]
        refine (f1 hY).mono ?_
        rintro r2 H11 ⟨e1, e2, e3⟩
        exact ⟨r2, w2, rfl, e1, e2, e3⟩
      · rw [decide_eq_false hY]
        obtain ⟨e1, e3⟩ := f2 hY
        exact ⟨q2, w2, rfl, e1, hw2, e3⟩
    · have hWn : W = 0 := by
        have : digits (-W) = [] := List.eq_nil_of_length_eq_zero (by omega)
        have := digits_nil.1 this
        omega
      have hw2 : Sl H7 w1 (digits (X % Y)) := by rw [d2 hX hWn]; rw [hWn] at hw1; exact hw1
      refine (fin H7 q1 w1 (-Q) (k6.trans k7 (by omega)) hq1 (by omega) hw2 (fun h => d6 hX h hWn) (fun h => by rw [d7 hX h hWn]; omega) rb7).mono ?_
      rintro _ _ ⟨rfl, rfl, f1, f2⟩
      by_cases hY : Y < 0
      · rw [decide_eq_true hY]
        refine (f1 hY).mono ?_
        rintro r2 H11 ⟨e1, e2, e3⟩
        exact ⟨r2, w1, rfl, e1, e2, e3⟩
      · rw [decide_eq_false hY]
        obtain ⟨e1, e3⟩ := f2 hY
        exact ⟨q1, w1, rfl, e1, hw2, e3⟩
  · rw [decide_eq_false hX]
    have hw2 : Sl H5 w (digits (X % Y)) := by rw [d1 (by omega)]; exact hw.sl
    refine (fin H5 q w Q (Kp.refl _ _) hq.sl (by omega) hw2 (fun h => d4 (by omega) h) (fun h => d5 (by omega) h) rb5).mono ?_
    rintro _ _ ⟨rfl, rfl, f1, f2⟩
    by_cases hY : Y < 0
    · rw [decide_eq_true hY]
      refine (f1 hY).mono ?_
      rintro r2 H11 ⟨e1, e2, e3⟩
      exact ⟨r2, w, rfl, e1, e2, e3⟩
    · rw [decide_eq_false hY]
      obtain ⟨e1, e3⟩ := f2 hY
      exact ⟨q, w, rfl, e1, hw2, e3⟩
end Go.PI

