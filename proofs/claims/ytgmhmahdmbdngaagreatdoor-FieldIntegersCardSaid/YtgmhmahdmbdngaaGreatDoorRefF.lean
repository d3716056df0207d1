/- Own work of the verifier, group RefF: PiRef8 PiRef9. -/
import Derived.Test.YtgmhmahdmbdngaaGreatDoorRefD
set_option linter.all false
set_option linter.deprecated false
/- The reference's Gcd and Small; the program's Small. -/
open Go.Proofs
namespace Go.PI
open IM
theorem fn36 : ctx.fn 36 = some c36 := by kernel_rfl
theorem fn21 : ctx.fn 21 = some c21 := by kernel_rfl
theorem fn22 : ctx.fn 22 = some c22 := by kernel_rfl
set_option maxRecDepth 10000
set_option maxHeartbeats 4000000
variable (S : FuncId → Option (List AV → Heap → Option (AV × Heap)))
theorem ex27 (T : List AV) (h : T.length = 27) : T = [T.getD 0 undefA, T.getD 1 undefA, T.getD 2 undefA, T.getD 3 undefA, T.getD 4 undefA, T.getD 5 undefA, T.getD 6 undefA, T.getD 7 undefA, T.getD 8 undefA, T.getD 9 undefA, T.getD 10 undefA, T.getD 11 undefA, T.getD 12 undefA, T.getD 13 undefA, T.getD 14 undefA, T.getD 15 undefA, T.getD 16 undefA, T.getD 17 undefA, T.getD 18 undefA, T.getD 19 undefA, T.getD 20 undefA, T.getD 21 undefA, T.getD 22 undefA, T.getD 23 undefA, T.getD 24 undefA, T.getD 25 undefA, T.getD 26 undefA] := by
  have := expand T
  rw [h] at this
  exact this
theorem ex42 (T : List AV) (h : T.length = 42) : T = [T.getD 0 undefA, T.getD 1 undefA, T.getD 2 undefA, T.getD 3 undefA, T.getD 4 undefA, T.getD 5 undefA, T.getD 6 undefA, T.getD 7 undefA, T.getD 8 undefA, T.getD 9 undefA, T.getD 10 undefA, T.getD 11 undefA, T.getD 12 undefA, T.getD 13 undefA, T.getD 14 undefA, T.getD 15 undefA, T.getD 16 undefA, T.getD 17 undefA, T.getD 18 undefA, T.getD 19 undefA, T.getD 20 undefA, T.getD 21 undefA, T.getD 22 undefA, T.getD 23 undefA, T.getD 24 undefA, T.getD 25 undefA, T.getD 26 undefA, T.getD 27 undefA, T.getD 28 undefA, T.getD 29 undefA, T.getD 30 undefA, T.getD 31 undefA, T.getD 32 undefA, T.getD 33 undefA, T.getD 34 undefA, T.getD 35 undefA, T.getD 36 undefA, T.getD 37 undefA, T.getD 38 undefA, T.getD 39 undefA, T.getD 40 undefA, T.getD 41 undefA] := by
  have := expand T
  rw [h] at this
  exact this
theorem rgcd_run (hR : OldR S) {H : Heap} {x y : AV} {xs ys : List Int} {X Y : Int} (hn : H.n + 3000000000 < lim) (hx : SV H x xs X) (hy : SV H y ys Y) (lX : (digits X).length ≤ 10) (lY : (digits Y).length ≤ 10) :
    Cl (ctx.plus S) 36 [x, y] H fun r H' => Sl H' r (digits (Int.gcd X Y : Int)) ∧ Kp H H' 2500000000 := by
  refine cl_of hR.h36 fn36 ?_
  have hT : (ctx.plus S).ty = tget := rfl
  have lx := hx.len
  have ly := hy.len
  refine (rnormal_run S hR.h25 hR.h110 hR.h111 hR.h112 (by omega) hx.sl (by omega) hx.in64).mono ?_
  rw [hx.val]
  rintro a H1 ⟨hM1, hn1⟩
  have k1 := hM1.kp (c := 120) (by omega)
  have k1m := k1.m
  refine (rsize_run S hR.h119 hR.h122 hR.h112 hR.h111 (H := H1) (by omega) hM1.rv (by omega) (nrm_digits _)).mono ?_
  rw [val_digits]
  rintro p H2 ⟨hM2, hn2⟩
  have k2 := hM2.kp hn2
  have k2m := k2.m
  have k12 := k1.trans k2 (Nat.le_refl _)
  refine (rnormal_run S hR.h25 hR.h110 hR.h111 hR.h112 (H := H2) (by omega) (hy.sl.kp k12) (by omega) hy.in64).mono ?_
  rw [hy.val]
  rintro b H3 ⟨hM3, hn3⟩
  have k3 := hM3.kp (c := 120) (by omega)
  have k3m := k3.m
  refine (rsize_run S hR.h119 hR.h122 hR.h112 hR.h111 (H := H3) (by omega) hM3.rv (by omega) (nrm_digits _)).mono ?_
  rw [val_digits]
  rintro q H4 ⟨hM4, hn4⟩
  have k4 := hM4.kp hn4
  have k4m := k4.m
  have aX := abs_len (nrm_digits X)
  have aY := abs_len (nrm_digits Y)
  rw [val_digits] at aX aY
  have hpS : Sl H4 p (digits (X.natAbs : Int)) := (hM2.toSl.kp k3).kp k4
  have hqS : Sl H4 q (digits (Y.natAbs : Int)) := hM4.toSl
  have kk : Kp H H4 300 := k12.trans (k3.trans k4 (Nat.le_refl _)) (by omega)
  obtain ⟨A0, hA0⟩ : ∃ A : Int, (X.natAbs : Int) = A := ⟨_, rfl⟩
  obtain ⟨B0, hB0⟩ : ∃ B : Int, (Y.natAbs : Int) = B := ⟨_, rfl⟩
  rw [hA0] at hpS aX
  rw [hB0] at hqS aY
  have hA00 : 0 ≤ A0 := by omega
  have hB00 : 0 ≤ B0 := by omega
  have hAB : A0 * B0 < 2 ^ 540 := by
    have a1 := (dig_digits hA00).val.2
    have a2 := (dig_digits hB00).val.2
    rw [val_digits] at a1 a2
    have p1 := pw_pos 10
    have m1 := pw_mono (show (digits A0).length ≤ 10 by omega)
    have m2 := pw_mono (show (digits B0).length ≤ 10 by omega)
    have b1 : A0 * B0 ≤ A0 * pw 10 := Int.mul_le_mul_of_nonneg_left (by omega) hA00
    have b2 : A0 * pw 10 < pw 10 * pw 10 := Int.mul_lt_mul_of_pos_right (by omega) p1
    have b3 : pw 10 * pw 10 = pw 20 := (pw_add 10 10).symm
    have b4 := pw_two 20
    have b5 : (2:Int) ^ (27 * 20) = 2 ^ 540 := by rfl
    omega
  have hdv : ∀ k : Int, (k ∣ A0 ∧ k ∣ B0) ↔ (k ∣ X ∧ k ∣ Y) := fun k => by rw [← hA0, ← hB0, nat_dvd, nat_dvd]
  refine ⟨fun m s => ∃ (e : Nat) (A B : Int) (u v : AV) (H' : Heap) (T : List AV),
    s = ⟨T, H', []⟩ ∧ T.length = 27 ∧ T.getD 5 undefA = u ∧ T.getD 6 undefA = v ∧ m = B.toNat ∧ Sl H' u (digits A) ∧ Sl H' v (digits B) ∧ 0 ≤ A ∧ 0 ≤ B ∧ (digits A).length ≤ 10 ∧ (digits B).length ≤ 10 ∧ A * B < 2 ^ e ∧ e ≤ 540 ∧ (∀ k : Int, (k ∣ A ∧ k ∣ B) ↔ (k ∣ X ∧ k ∣ Y)) ∧
      ((B ≤ A ∧ Kp H H' (300 + 4000000 * (541 - e))) ∨ (A < B ∧ e = 540 ∧ Kp H H' 300)), ⟨B0.toNat, ?_⟩, ?_⟩
  · refine ⟨540, A0, B0, p, q, H4, _, rfl, rfl, rfl, rfl, rfl, hpS, hqS, hA00, hB00, by omega, by omega, hAB, Nat.le_refl _, hdv, ?_⟩
    by_cases h : B0 ≤ A0
    · exact .inl ⟨h, kk.le (by omega)⟩
    · exact .inr ⟨by omega, rfl, kk⟩
  · rintro m s ⟨e, A, B, u, v, H', T, rfl, hTl, h5t, h6t, rfl, hu, hv, hA, hB, lA, lB, hlt, he, hdv, hc⟩
    obtain ⟨J, rfl⟩ : ∃ J : Nat → AV, T = [J 0, J 1, J 2, J 3, J 4, u, v, J 7, J 8, J 9, J 10, J 11, J 12, J 13, J 14, J 15, J 16, J 17, J 18, J 19, J 20, J 21, J 22, J 23, J 24, J 25, J 26] := ⟨fun i => T.getD i undefA, (ex27 T hTl).trans (by rw [h5t, h6t])⟩
    clear hTl h5t h6t
    have kH : Kp H H' (300 + 4000000 * (541 - e)) := by
      rcases hc with ⟨-, h⟩ | ⟨-, -, h⟩
      · exact h
      · exact h.le (by omega)
    have kHm := kH.m
    refine ⟨_, len_sl hT (v := v) rfl hv, ?_⟩
    refine ⟨fun hl => ?_, fun hl => ?_⟩
    · have hB1 : 0 < B := by
        rcases ilt_or 0 B with h | h
        · exact h
        · have : B = 0 := by omega
          subst this
          exact absurd hl (by decide)
      refine (rdivide_run S hR (H := H') (by omega) hu hv (by omega) (by omega) (dig_digits hA) (dig_digits hB) (nrm_digits _).2 (by rw [val_digits]; exact hB1)).mono ?_
      rw [val_digits, val_digits]
      rintro _ H5 ⟨q', w, rfl, -, hw, k5⟩
      have k5' : Kp H' H5 4000000 := k5.le (by omega)
      have e2 := Int.emod_nonneg A (show B ≠ 0 by omega)
      have e3 := Int.emod_lt_of_pos A hB1
      have lw : (digits (A % B)).length ≤ 10 := Nat.le_trans (digits_len_le e2 (by omega)) lB
      have hdv2 : ∀ k : Int, (k ∣ B ∧ k ∣ A % B) ↔ (k ∣ X ∧ k ∣ Y) := fun k => by
        rw [← hdv k]
        have e1 := Int.mul_ediv_add_emod A B
        refine ⟨fun h => ⟨?_, h.1⟩, fun h => ⟨h.2, ?_⟩⟩
        · rw [← e1]; exact Int.dvd_add (Int.dvd_mul_of_dvd_left h.1) h.2
        · have h2 : A % B = A - B * (A / B) := by omega
          rw [h2]; exact Int.dvd_sub h.1 (Int.dvd_mul_of_dvd_left h.2)
      rcases hc with ⟨hle, -⟩ | ⟨hlt2, he2, k0⟩
      · obtain ⟨-, -, m3, -⟩ := mod_half hB1 hle
        obtain ⟨e, rfl⟩ : ∃ e', e = e' + 1 := by
          cases e with
          | zero =>
            exfalso
            have : 1 * 1 ≤ A * B := Int.mul_le_mul (by omega) (by omega) (by omega) (by omega)
            rw [Int.pow_zero] at hlt
            omega
          | succ e => exact ⟨e, rfl⟩
        have hpw : (2:Int) ^ (e + 1) = 2 * 2 ^ e := by rw [Int.pow_succ]; omega
        rw [hpw] at hlt
        exact ⟨(A % B).toNat, by omega, e, B, A % B, v, w, H5, _, rfl, rfl, rfl, rfl, rfl, hv.kp k5, hw.sl, hB, e2, lB, lw, by omega, by omega, hdv2, .inl ⟨by omega, kH.trans k5' (by omega)⟩⟩
      · have hmod : A % B = A := Int.emod_eq_of_lt hA hlt2
        refine ⟨(A % B).toNat, by omega, e, B, A % B, v, w, H5, _, rfl, rfl, rfl, rfl, rfl, hv.kp k5, hw.sl, hB, e2, lB, lw, by rw [hmod, Int.mul_comm]; exact hlt, he, hdv2, .inl ⟨by omega, k0.trans k5' (by omega)⟩⟩
    · have hB0 : B = 0 := digits_nil.1 (List.eq_nil_of_length_eq_zero (by omega))
      subst hB0
      have hg := gcd_of (G := A) (X := X) (Y := Y) hA fun k => by
        rw [← hdv k]; exact ⟨fun h => ⟨h, Int.dvd_zero k⟩, fun h => h.1⟩
      have hfin : Sl H' u (digits (Int.gcd X Y : Int)) ∧ Kp H H' 2500000000 := ⟨by rw [hg]; exact hu, kH.le (by omega)⟩
      exact hfin

/-! ### Small -/
theorem suffix_in {us : List Int} (h : Nrm us) (hv : In64 (val us)) : ∀ k, In64 (val (us.drop k)) ∧ In64 (100000000 * val (us.drop (k + 1))) := by
  have pos : ∀ (zs : List Int), Dig zs → ∀ k, 0 ≤ val (zs.drop k) ∧ val (zs.drop k) ≤ val zs := by
    intro zs hz
    induction zs with
    | nil => intro k; simp [val]
    | cons z zs ih =>
      have hz0 := hz z (by simp)
      have hz1 : Dig zs := fun y hy => hz y (by simp [hy])
      intro k
      cases k with
      | zero => exact ⟨by simpa using hz.val.1, by simp⟩
      | succ k =>
        have := ih hz1 k
        simp only [List.drop_succ_cons, val]
        omega
  have pos2 : ∀ (zs : List Int), Dig zs → ∀ k, 0 ≤ 100000000 * val (zs.drop (k + 1)) ∧ 100000000 * val (zs.drop (k + 1)) ≤ val zs := by
    intro zs hz k
    have h1 := pos zs hz k
    have h2 := pos zs hz (k + 1)
    rcases Nat.lt_or_ge k zs.length with hk | hk
    · have hc := val_cons_drop (xs := zs) (k := k) (e := zs[k]) (List.getElem?_eq_getElem hk)
      have := hz zs[k] (List.getElem_mem hk)
      omega
    · rw [List.drop_of_length_le (show zs.length ≤ k + 1 by omega)]
      simp only [val]
      omega
  unfold In64 at hv ⊢
  intro k
  rcases sgn_val h with ⟨-, rfl, -⟩ | ⟨-, -, -, hd⟩ | ⟨-, -, -, hd⟩
  · simp [val]
  · have h1 := pos us hd k
    have h2 := pos2 us hd k
    omega
  · have h1 := pos _ hd k
    have h2 := pos2 _ hd k
    rw [← List.map_drop, val_neg, val_neg] at h1 h2
    omega
theorem fsmall_run (hS : OldI S) (h21 : S 21 = none) {H : Heap} {x : AV} {xs : List Int} {X : Int} (hn : H.n + 200 < lim) (hx : IV H x xs X) :
    Cl (ctx.plus S) 21 [x] H fun r H' => r = .tup [iv (if -9223372036854775808 ≤ X ∧ X < 9223372036854775808 then X else 0), .bool (decide (-9223372036854775808 ≤ X ∧ X < 9223372036854775808))] ∧ Kp H H' 60 := by
  refine cl_of h21 fn21 ?_
  have hT : (ctx.plus S).ty = tget := rfl
  have hd := hx.dlen
  refine (normal_kp S hS (by omega) hx).mono ?_
  rintro a H1 ⟨h1, -, k1⟩
  have k1m := k1.m
  have good : ∀ (H2 : Heap) (c : Nat), Kp H1 H2 40 → (-9223372036854775808 ≤ X ∧ X < 9223372036854775808) → Cl (ctx.plus S) 108 [a] H2 fun r H' => AV.tup [r, .bool true] = .tup [iv (if -9223372036854775808 ≤ X ∧ X < 9223372036854775808 then X else 0), .bool (decide (-9223372036854775808 ≤ X ∧ X < 9223372036854775808))] ∧ Kp H H' 60 := by
    intro H2 c k2 hin
    have k2m := k2.m
    refine (vsmall_run S hS.h108 hS.h182 hS.h228 (H := H2) (x := a) (by omega) (h1.kp k2) (by omega) (suffix_in (nrm_digits X) (by rw [val_digits]; exact hin))).mono ?_
    rw [val_digits]
    rintro _ H3 ⟨rfl, k3⟩
    exact ⟨by rw [if_pos hin, decide_eq_true hin], k1.trans (k2.trans k3 (Nat.le_refl _)) (by omega)⟩
  have bad : ∀ H2 : Heap, Kp H1 H2 40 → ¬ (-9223372036854775808 ≤ X ∧ X < 9223372036854775808) → AV.tup [iv 0, .bool false] = .tup [iv (if -9223372036854775808 ≤ X ∧ X < 9223372036854775808 then X else 0), .bool (decide (-9223372036854775808 ≤ X ∧ X < 9223372036854775808))] ∧ Kp H H2 60 := by
    intro H2 k2 hin
    exact ⟨by rw [if_neg hin, decide_eq_false hin], k1.trans k2 (by omega)⟩
  refine ⟨_, len_sl hT (v := a) rfl h1, ?_⟩
  refine ⟨fun hl => ?_, fun hl => ?_⟩
  · refine (of_run2 S hS.o hS.h26 (H := H1) (n := -9223372036854775808) (by omega) (by unfold In64; omega)).mono ?_
    rintro b H2 ⟨hM2, hn2⟩
    have k2 := hM2.kp hn2
    have k2m := k2.m
    refine (compare_run S hS.h107 hS.o.h125 hS.h181 hS.h227 hS.h182 hS.h228 (H := H2) (x := a) (y := b) (by omega) (h1.kp k2) hM2.toSl (by omega) (by decide) (nrm_digits _) (nrm_digits _)).mono ?_
    rw [val_digits, val_digits]
    rintro _ H3 ⟨rfl, k3⟩
    have k3m := k3.m
    refine ⟨fun hc => ?_, fun hc => ?_⟩
    · refine bad H3 (k2.trans k3 (by omega)) (fun h => ?_)
      unfold cmpI at hc
      split at hc
      · omega
      · split at hc <;> omega
    · have hge : -9223372036854775808 ≤ X := by
        unfold cmpI at hc
        split at hc <;> omega
      refine (of_run2 S hS.o hS.h26 (H := H3) (n := 9223372036854775807) (by omega) (by unfold In64; omega)).mono ?_
      rintro c H4 ⟨hM4, hn4⟩
      have k4 := hM4.kp hn4
      have k4m := k4.m
      refine (compare_run S hS.h107 hS.o.h125 hS.h181 hS.h227 hS.h182 hS.h228 (H := H4) (x := a) (y := c) (by omega) (((h1.kp k2).kp k3).kp k4) hM4.toSl (by omega) (by decide) (nrm_digits _) (nrm_digits _)).mono ?_
      rw [val_digits, val_digits]
      rintro _ H5 ⟨rfl, k5⟩
      have kk : Kp H1 H5 40 := k2.trans (k3.trans (k4.trans k5 (Nat.le_refl _)) (Nat.le_refl _)) (by omega)
      refine ⟨fun hc2 => ?_, fun hc2 => ?_⟩
      · refine bad H5 kk (fun h => ?_)
        unfold cmpI at hc2
        split at hc2
        · omega
        · split at hc2 <;> omega
      · have hle : X < 9223372036854775808 := by
          unfold cmpI at hc2
          split at hc2
          · omega
          · split at hc2 <;> omega
        exact good H5 0 kk ⟨hge, hle⟩
  · have hb := pw_mono (show (digits X).length ≤ 2 by omega)
    have hb2 := sml_val (nrm_digits X).sml'
    rw [val_digits] at hb2
    have : pw 2 = 10000000000000000 := by decide
    exact good H1 0 (Kp.refl _ _) (by omega)
end Go.PI

/- The reference's Small. -/
open Go.Proofs
namespace Go.PI
open IM
set_option maxRecDepth 10000
set_option maxHeartbeats 4000000
variable (S : FuncId → Option (List AV → Heap → Option (AV × Heap)))
theorem pw20' : 1000000000000000000000000000000000000000000000000000000000000000000000000000000000000000000000000000000000000000000000000000000000000000000000000000000000 ≤ pw 20 := by decide
theorem sv_one {G : Heap} {c : Int} (hn : G.n + 1 < lim) (hc : In64 c) : SV (G.push (.cells true 3 [iv c])) (.sl G.n 0 1 1) [c] c ∧ Kp G (G.push (.cells true 3 [iv c])) 1 := by
  have hp := Heap.get_push (H := G) (b := .cells true 3 [iv c]) (by omega)
  have h20 := pw20'
  unfold In64 at hc
  refine ⟨⟨⟨rfl, true, 3, [iv c], by rw [hp, if_pos rfl], by simp, rfl⟩, fun z hz => ?_, by simp, by simp [val], len_of ⟨by omega, by omega⟩⟩, by show G.n ≤ G.n + 1; omega, Nat.le_refl _, fun A hA => by rw [hp, if_neg (by omega)]⟩
  have : z = c := by simpa using hz
  subst this
  exact hc
theorem rsmall_run (hR : OldR S) {H : Heap} {x : AV} {xs : List Int} {X : Int} (hn : H.n + 10000 < lim) (hx : SV H x xs X) :
    Cl (ctx.plus S) 22 [x] H fun r H' => r = .tup [iv (if -9223372036854775808 ≤ X ∧ X < 9223372036854775808 then X else 0), .bool (decide (-9223372036854775808 ≤ X ∧ X < 9223372036854775808))] ∧ Kp H H' 6000 := by
  refine cl_of hR.h22 fn22 ?_
  have hT : (ctx.plus S).ty = tget := rfl
  have h20 := pw20'
  have lx := hx.len
  have hp := Heap.get_push (H := H) (b := .cells true 3 [iv (-9223372036854775807), iv 0]) (by omega)
  have kp : Kp H (H.push (.cells true 3 [iv (-9223372036854775807), iv 0])) 1 := ⟨by show H.n ≤ H.n + 1; omega, Nat.le_refl _, fun A hA => by rw [hp, if_neg (by omega)]⟩
  have kpm := kp.m
  refine ⟨by omega, _, _, rfl, ?_⟩
  refine (rnormal_run S hR.h25 hR.h110 hR.h111 hR.h112 (H := H.push (.cells true 3 [iv (-9223372036854775807), iv 0])) (x := .sl H.n 0 2 2) (xs := [-9223372036854775807, 0]) (by simp; omega) ⟨rfl, true, 3, _, by rw [hp, if_pos rfl], by simp, rfl⟩ (by simp) (fun e he => by
    have : e = -9223372036854775807 ∨ e = 0 := by simpa using he
    unfold In64; omega)).mono ?_
  rw [show val [-9223372036854775807, 0] = -9223372036854775807 by decide]
  rintro a H1 ⟨hM1, hn1⟩
  simp only [List.length_cons, List.length_nil] at hn1
  have k1 := hM1.kp (c := 60) (by omega)
  have k1m := k1.m
  obtain ⟨s2, kq⟩ := sv_one (G := H1) (c := 9223372036854775807) (by omega) (by unfold In64; omega)
  have kqm := kq.m
  refine ⟨by omega, _, _, rfl, ?_⟩
  refine (rnormal_run S hR.h25 hR.h110 hR.h111 hR.h112 (H := H1.push (.cells true 3 [iv 9223372036854775807])) (by simp; omega) s2.sl (by simp) s2.in64).mono ?_
  rw [s2.val]
  rintro b H2 ⟨hM2, hn2⟩
  simp only [List.length_cons, List.length_nil] at hn2
  have k2 := hM2.kp (c := 60) (by omega)
  have k2m := k2.m
  obtain ⟨s3, kr⟩ := sv_one (G := H2) (c := 1) (by omega) (by unfold In64; omega)
  have krm := kr.m
  have sva : SV H2 a (digits (-9223372036854775807)) (-9223372036854775807) := SV.of ((hM1.toSl.kp kq).kp k2) (by omega)
  refine ⟨by omega, _, _, rfl, ?_⟩
  refine (rsub_run S hR (H := H2.push (.cells true 3 [iv 1])) (by omega) (sva.kp kr) s3).mono ?_
  rintro c H3 ⟨hM3, hn3⟩
  have k3 := hM3.kp hn3
  have k3m := k3.m
  have k03 : Kp H H3 1000 := kp.trans (k1.trans (kq.trans (k2.trans (kr.trans k3 (Nat.le_refl _)) (Nat.le_refl _)) (Nat.le_refl _)) (Nat.le_refl _)) (by omega)
  have svc : SV H3 c (digits (-9223372036854775808)) (-9223372036854775808) := SV.of hM3.toSl (by omega)
  have svb : SV H3 b (digits 9223372036854775807) 9223372036854775807 := SV.of ((hM2.toSl.kp kr).kp k3) (by omega)
  have k03m := k03.m
  have bad : ∀ H4 : Heap, Kp H3 H4 2000 → ¬ (-9223372036854775808 ≤ X ∧ X < 9223372036854775808) → AV.tup [iv 0, .bool false] = .tup [iv (if -9223372036854775808 ≤ X ∧ X < 9223372036854775808 then X else 0), .bool (decide (-9223372036854775808 ≤ X ∧ X < 9223372036854775808))] ∧ Kp H H4 6000 := by
    intro H4 k4 hin
    exact ⟨by rw [if_neg hin, decide_eq_false hin], k03.trans k4 (by omega)⟩
  refine (rcmp_run S hR (H := H3) (by omega) (hx.kp k03) svc).mono ?_
  rintro _ H4 ⟨rfl, k4⟩
  have k4m := k4.m
  refine ⟨fun hc => ?_, fun hc => ?_⟩
  · refine bad H4 (k4.le (by omega)) (fun h => ?_)
    unfold cmpI at hc
    split at hc
    · omega
    · split at hc <;> omega
  have hge : -9223372036854775808 ≤ X := by
    unfold cmpI at hc
    split at hc <;> omega
  refine (rcmp_run S hR (H := H4) (by omega) ((hx.kp k03).kp k4) (svb.kp k4)).mono ?_
  rintro _ H5 ⟨rfl, k5⟩
  have k5m := k5.m
  refine ⟨fun hc2 => ?_, fun hc2 => ?_⟩
  · refine bad H5 (k4.trans k5 (by omega)) (fun h => ?_)
    unfold cmpI at hc2
    split at hc2
    · omega
    · split at hc2 <;> omega
  have hin : -9223372036854775808 ≤ X ∧ X < 9223372036854775808 := ⟨hge, by
    unfold cmpI at hc2
    split at hc2
    · omega
    · split at hc2 <;> omega⟩
  have k05 : Kp H H5 2500 := k03.trans (k4.trans k5 (Nat.le_refl _)) (by omega)
  refine (rnormal_run S hR.h25 hR.h110 hR.h111 hR.h112 (H := H5) (by omega) (hx.sl.kp k05) (by omega) hx.in64).mono ?_
  rw [hx.val]
  rintro d H6 ⟨hM6, hn6⟩
  have k6 := hM6.kp (c := 120) (by omega)
  have hd : Sl H6 d (digits X) := hM6.toSl
  have hsuf := suffix_in (nrm_digits X) (by rw [val_digits]; exact hin)
  have hvx := val_digits X
  have hdl := hx.dl
  obtain ⟨us, hus⟩ : ∃ us, digits X = us := ⟨_, rfl⟩
  rw [hus] at hd hsuf hvx hdl
  have su : ∀ e ∈ us, -100000000 < e ∧ e < 100000000 := by rw [← hus]; exact (nrm_digits X).sml'
  refine ⟨_, len_sl hT (v := d) rfl hd, ?_⟩
  refine ⟨⟨by omega, by omega⟩, ?_⟩
  refine ⟨fun m s => ∃ (k : Nat) (n j : Int) (T : List AV), s = ⟨T, H6, []⟩ ∧ T.length = 42 ∧ T.getD 0 undefA = d ∧ T.getD 6 undefA = iv n ∧ T.getD 7 undefA = iv j ∧ m = k ∧ j = (k : Int) - 1 ∧ k ≤ us.length ∧ n = val (us.drop k), ⟨us.length, ?_⟩, ?_⟩
  · exact ⟨us.length, 0, _, _, rfl, rfl, rfl, rfl, rfl, rfl, rfl, Nat.le_refl _, by rw [List.drop_length]; rfl⟩
  · rintro m s ⟨k, n, j, T, rfl, hTl, h0t, h6t, h7t, hm, rfl, hk, rfl⟩
    obtain ⟨J, rfl⟩ : ∃ J : Nat → AV, T = [d, J 1, J 2, J 3, J 4, J 5, iv (val (us.drop k)), iv ((k : Int) - 1), J 8, J 9, J 10, J 11, J 12, J 13, J 14, J 15, J 16, J 17, J 18, J 19, J 20, J 21, J 22, J 23, J 24, J 25, J 26, J 27, J 28, J 29, J 30, J 31, J 32, J 33, J 34, J 35, J 36, J 37, J 38, J 39, J 40, J 41] := ⟨fun i => T.getD i undefA, (ex42 T hTl).trans (by rw [h0t, h6t, h7t])⟩
    clear hTl h0t h6t h7t
    refine ⟨fun hge => ?_, fun hlt => ?_⟩
    · obtain ⟨k, rfl⟩ : ∃ i, k = i + 1 := ⟨k - 1, by omega⟩
      obtain ⟨e, he⟩ : ∃ e, us[k]? = some e := ⟨us[k]'(by omega), List.getElem?_eq_getElem _⟩
      have heB := su e (List.mem_of_getElem? he)
      obtain ⟨i1, i2⟩ := hsuf k
      have hvk := val_cons_drop he
      unfold In64 at i1 i2
      refine ⟨⟨by omega, by omega⟩, ?_⟩
      refine ⟨_, idx_sl hT (v := d) (n := ((k + 1 : Nat) : Int) - 1) (k := k) rfl rfl hd (by omega) (by omega), ?_⟩
      refine ⟨_, load_sl hT hd he, ?_⟩
      refine ⟨⟨by omega, by omega⟩, ?_⟩
      refine ⟨⟨by omega, by omega⟩, ?_⟩
      exact ⟨k, by omega, k, _, _, _, rfl, rfl, rfl, rfl, rfl, rfl, by omega, by omega, by omega⟩
    · have hk0 : k = 0 := by omega
      subst hk0
      have hfin : AV.tup [iv (val (us.drop 0)), .bool true] = .tup [iv (if -9223372036854775808 ≤ X ∧ X < 9223372036854775808 then X else 0), .bool (decide (-9223372036854775808 ≤ X ∧ X < 9223372036854775808))] ∧ Kp H H6 6000 :=
        ⟨by rw [if_pos hin, decide_eq_true hin, List.drop_zero, hvx], k05.trans k6 (by omega)⟩
      exact hfin
end Go.PI

