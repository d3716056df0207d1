/- Own work of the verifier, group PiX: PiDivd. -/
import Derived.Test.YtgmhmahdmbdngaaGreatDoorPiW
set_option linter.all false
set_option linter.deprecated false
/- divide. -/
open Go.Proofs
namespace Go.PI
open IM
set_option maxRecDepth 10000
set_option maxHeartbeats 4000000
variable (S : FuncId → Option (List AV → Heap → Option (AV × Heap)))
theorem divide_run (hS : OldI S) {H : Heap} {x y : AV} {xs ys : List Int} (hn : H.n + 200 < lim) (hx : Sl H x xs) (hy : Sl H y ys) (hxl : xs.length ≤ 999900) (hyl : ys.length ≤ 999900) (nx : Nrm xs) (ny : Nrm ys) (hy0 : ys ≠ []) :
    Cl (ctx.plus S) 121 [x, y] H fun r H' => ∃ q w, r = .tup [q, w] ∧ Sl H' q (digits (val xs / val ys)) ∧ Sl H' w (digits (val xs % val ys)) ∧ Kp H H' 120 := by
  refine cl_of hS.h121 fn121 ?_
  have hT : (ctx.plus S).ty = tget := rfl
  have hY0 : val ys ≠ 0 := fun h => hy0 (by rw [← digits_val ny, h]; rfl)
  obtain ⟨d1, d2, d3, d4, d5, d6, d7, d8, d9⟩ := div_signs (X := val xs) hY0
  refine (size_kp S hS (by omega) hx (by omega) nx).mono ?_
  rintro a H1 ⟨ha, k1⟩
  have k1m := k1.m
  refine (size_kp S hS (H := H1) (x := y) (by omega) (hy.kp k1) (by omega) ny).mono ?_
  rintro b H2 ⟨hb, k2⟩
  have k2m := k2.m
  have hbne : digits ((val ys).natAbs : Int) ≠ [] := fun h => by rw [digits_nil] at h; omega
  refine (quotient_run S hS (H := H2) (x := a) (y := b) (by omega) (ha.kp k2) hb (by rw [abs_len nx]; omega) (by rw [abs_len ny]; omega) (abs_dig _) (nrm_digits _).2 (abs_dig _) (nrm_digits _).2 hbne).mono ?_
  rintro _ H3 ⟨q, w, rfl, hq, ⟨hw, -⟩, k3⟩
  rw [val_digits, val_digits] at hq hw
  have k3m := k3.m
  have k123 : Kp H H3 76 := k1.trans (k2.trans k3 (Nat.le_refl _)) (by omega)
  obtain ⟨Q, hQ⟩ : ∃ Q, ((val xs).natAbs : Int) / ((val ys).natAbs : Int) = Q := ⟨_, rfl⟩
  obtain ⟨W, hW⟩ : ∃ W, ((val xs).natAbs : Int) % ((val ys).natAbs : Int) = W := ⟨_, rfl⟩
  rw [hQ] at hq d4 d5 d6 d7 d8 d9
  rw [hW] at hw d1 d2 d3 d6 d7 d8 d9
  have hW0 : 0 ≤ W := by rw [← hW]; exact Int.emod_nonneg _ (by omega)
  have hWl : W ≤ ((val ys).natAbs : Int) := by rw [← hW]; exact Int.le_of_lt (Int.emod_lt_of_pos _ (by omega))
  have hQ0 : 0 ≤ Q := by rw [← hQ]; exact Int.ediv_nonneg (by omega) (by omega)
  have hQl : Q ≤ ((val xs).natAbs : Int) := by rw [← hQ]; exact Int.ediv_le_self _ (by omega)
  have lQ : (digits Q).length ≤ xs.length := by rw [← abs_len nx]; exact digits_len_le hQ0 hQl
  have lW : (digits W).length ≤ ys.length := by rw [← abs_len ny]; exact digits_len_le hW0 hWl
  have finN : ∀ (H4 H5 : Heap) (w' r : AV) (Q' : Int), Kp H3 H4 30 → Sl H4 w' (digits (val xs % val ys)) → val xs / val ys = - Q' → Sl H5 r (digits (- Q')) ∧ Kp H4 H5 8 → ∃ q w, AV.tup [r, w'] = .tup [q, w] ∧ Sl H5 q (digits (val xs / val ys)) ∧ Sl H5 w (digits (val xs % val ys)) ∧ Kp H H5 120 := by
    rintro H4 H5 w' r Q' k4 h1 h2 ⟨h3, h4⟩
    exact ⟨r, w', rfl, by rw [h2]; exact h3, h1.kp h4, k123.trans (k4.trans h4 (Nat.le_refl _)) (by omega)⟩
  have finE : ∀ (H4 : Heap) (w' r : AV) (Q' : Int), Kp H3 H4 30 → Sl H4 w' (digits (val xs % val ys)) → val xs / val ys = Q' → Sl H4 r (digits Q') → ∃ q w, AV.tup [r, w'] = .tup [q, w] ∧ Sl H4 q (digits (val xs / val ys)) ∧ Sl H4 w (digits (val xs % val ys)) ∧ Kp H H4 120 := by
    intro H4 w' r Q' k4 h1 h2 h3
    exact ⟨r, w', rfl, by rw [h2]; exact h3, h1, k123.trans k4 (by omega)⟩
  have sx := sgn_val nx
  have sy := sgn_val ny
  refine (sign_run S hS.o.h125 (H := H3) (v := x) (by omega) (hx.kp k123)).mono ?_
  rintro _ _ ⟨rfl, rfl⟩
  refine ⟨fun hneg => ?_, fun hpos => ?_⟩
  · have hX : val xs < 0 := by rcases sx with ⟨s1, -, s3⟩ | ⟨s1, -, s3, -⟩ | ⟨s1, -, s3, -⟩ <;> omega
    have hsx : sgnL xs = -1 := by rcases sx with ⟨s1, -, s3⟩ | ⟨s1, -, s3, -⟩ | ⟨s1, -, s3, -⟩ <;> omega
    refine ⟨_, len_sl hT (v := w) rfl hw, ?_⟩
    refine ⟨fun hlw => ?_, fun hlw => ?_⟩
    · have hWn : W ≠ 0 := fun h => by subst h; simp [show digits 0 = [] from rfl] at hlw
      refine ⟨by omega, _, _, rfl, ?_⟩
      have hp := Heap.get_push (H := H3) (b := .cells true 3 [iv 1]) (by omega)
      have kp : Kp H3 (H3.push (.cells true 3 [iv 1])) 1 := ⟨by show H3.n ≤ H3.n + 1; omega, Nat.le_refl _, fun A hA => by rw [hp, if_neg (by omega)]⟩
      have h1s : Sl (H3.push (.cells true 3 [iv 1])) (.sl H3.n 0 1 1) [1] := ⟨rfl, true, 3, [iv 1], by rw [hp, if_pos rfl], by simp, rfl⟩
      have kpm := kp.m
      refine (plus_kp S hS (H := H3.push (.cells true 3 [iv 1])) (x := q) (y := .sl H3.n 0 1 1) (f := 1) (by omega) (hq.kp kp) h1s (by omega) (by simp) (nrm_digits Q) ⟨.inl (by simp), .inr ⟨[], 1, rfl, by decide⟩⟩ (by omega)).mono ?_
      rintro q' H4 ⟨hq', k4⟩
      have k4m := k4.m
      rw [val_digits, show val [1] = 1 by simp [val], Int.mul_one] at hq'
      have kb := kp.trans k4 (Nat.le_refl _)
      refine (plus_kp S hS (H := H4) (x := b) (y := w) (f := -1) (by omega) ((hb.kp k3).kp kb) (hw.kp kb) (by rw [abs_len ny]; omega) (by omega) (nrm_digits _) (nrm_digits _) (by omega)).mono ?_
      rintro w' H5 ⟨hw', k5⟩
      have k5m := k5.m
      rw [val_digits, val_digits, show ((val ys).natAbs : Int) + -1 * W = (val ys).natAbs - W by omega, ← d3 hX hWn] at hw'
      have k345 : Kp H3 H5 30 := kb.trans k5 (by omega)
      have lq' : (digits (Q + 1)).length ≤ 1000000 := by
        have h1 : Dig (digits Q) := nrm_pos (nrm_digits Q) (by rw [val_digits]; exact hQ0)
        have h2 := h1.val.2
        rw [val_digits] at h2
        rcases Nat.lt_or_ge ((digits Q).length + 1) (digits (Q + 1)).length with h | h
        · exfalso
          have d := (nrm_len (nrm_pos (nrm_digits (Q + 1)) (by rw [val_digits]; omega)) (nrm_digits (Q + 1)).2 (by intro h'; rw [h'] at h; simp at h)).1
          rw [val_digits] at d
          have := pw_mono (show (digits Q).length + 1 ≤ (digits (Q + 1)).length - 1 by omega)
          rw [pw_succ] at this
          omega
        · omega
      refine (sign_run S hS.o.h125 (H := H5) (v := x) (by omega) ((hx.kp k123).kp k345)).mono ?_
      rintro _ _ ⟨rfl, rfl⟩
      refine (sign_run S hS.o.h125 (H := H5) (v := y) (by omega) ((hy.kp k123).kp k345)).mono ?_
      rintro _ _ ⟨rfl, rfl⟩
      refine ⟨fun hne => ?_, fun heq => ?_⟩
      · refine (negative_kp S hS (H := H5) (x := q') (by omega) (hq'.kp k5) lq' (nrm_digits _)).mono ?_
        rw [val_digits]
        intro r H6 hr
        exact finN H5 H6 w' r (Q + 1) k345 hw' (d8 hX (by rcases sy with ⟨s1, -, s3⟩ | ⟨s1, -, s3, -⟩ | ⟨s1, -, s3, -⟩ <;> omega) hWn) hr
      · exact finE H5 w' q' (Q + 1) k345 hw' (d9 hX (by rcases sy with ⟨s1, -, s3⟩ | ⟨s1, -, s3, -⟩ | ⟨s1, -, s3, -⟩ <;> omega) hWn) (hq'.kp k5)
    · have hWn : W = 0 := by
        have : digits W = [] := List.eq_nil_of_length_eq_zero (by omega)
        exact digits_nil.1 this
      rw [show W = val xs % val ys from hWn.trans (d2 hX hWn).symm] at hw
      refine (sign_run S hS.o.h125 (H := H3) (v := x) (by omega) (hx.kp k123)).mono ?_
      rintro _ _ ⟨rfl, rfl⟩
      refine (sign_run S hS.o.h125 (H := H3) (v := y) (by omega) (hy.kp k123)).mono ?_
      rintro _ _ ⟨rfl, rfl⟩
      refine ⟨fun hne => ?_, fun heq => ?_⟩
      · refine (negative_kp S hS (H := H3) (x := q) (by omega) hq (by omega) (nrm_digits _)).mono ?_
        rw [val_digits]
        intro r H6 hr
        exact finN H3 H6 w r Q (Kp.refl _ _) hw (d6 hX (by rcases sy with ⟨s1, -, s3⟩ | ⟨s1, -, s3, -⟩ | ⟨s1, -, s3, -⟩ <;> omega) hWn) hr
      · exact finE H3 w q Q (Kp.refl _ _) hw (d7 hX (by rcases sy with ⟨s1, -, s3⟩ | ⟨s1, -, s3, -⟩ | ⟨s1, -, s3, -⟩ <;> omega) hWn) hq
  · have hX : 0 ≤ val xs := by rcases sx with ⟨s1, -, s3⟩ | ⟨s1, -, s3, -⟩ | ⟨s1, -, s3, -⟩ <;> omega
    rw [← d1 hX] at hw
    refine (sign_run S hS.o.h125 (H := H3) (v := x) (by omega) (hx.kp k123)).mono ?_
    rintro _ _ ⟨rfl, rfl⟩
    refine (sign_run S hS.o.h125 (H := H3) (v := y) (by omega) (hy.kp k123)).mono ?_
    rintro _ _ ⟨rfl, rfl⟩
    have hQz : val xs = 0 → Q = 0 := fun h => by rw [← hQ, h]; simp
    refine ⟨fun hne => ?_, fun heq => ?_⟩
    · refine (negative_kp S hS (H := H3) (x := q) (by omega) hq (by omega) (nrm_digits _)).mono ?_
      rw [val_digits]
      intro r H6 hr
      refine finN H3 H6 w r Q (Kp.refl _ _) hw ?_ hr
      rcases sy with ⟨s1, -, s3⟩ | ⟨s1, -, s3, -⟩ | ⟨s1, -, s3, -⟩
      · omega
      · have hx0 : val xs = 0 := by rcases sx with ⟨s1, -, s3⟩ | ⟨s1, -, s3, -⟩ | ⟨s1, -, s3, -⟩ <;> omega
        rw [d4 hX s3, hQz hx0]; rfl
      · exact d5 hX s3
    · refine finE H3 w q Q (Kp.refl _ _) hw ?_ hq
      rcases sy with ⟨s1, -, s3⟩ | ⟨s1, -, s3, -⟩ | ⟨s1, -, s3, -⟩
      · omega
      · exact d4 hX s3
      · rcases sx with ⟨s1, -, s3⟩ | ⟨s1, -, s3, -⟩ | ⟨s1, -, s3, -⟩ <;> omega
end Go.PI

