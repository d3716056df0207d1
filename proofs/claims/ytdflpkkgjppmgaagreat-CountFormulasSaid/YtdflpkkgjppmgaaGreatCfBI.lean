/- Own work of the verifier: CiEucl CiGcdL CvGcd CvRdiv. -/
import Derived.Test.YtdflpkkgjppmgaaGreatCfBH
import Derived.Test.YtdflpkkgjppmgaaGreatCfAU
set_option linter.all false
set_option exponentiation.threshold 3000
set_option linter.deprecated false
/- euclid. -/
open Go.Proofs
namespace Go.PI
open IM
theorem fn189 : ctx.fn 189 = some c189 := by kernel_rfl
set_option maxRecDepth 10000
set_option maxHeartbeats 4000000
variable (S : FuncId → Option (List AV → Heap → Option (AV × Heap)))
theorem ex81 (T : List AV) (h : T.length = 81) : T = [T.getD 0 undefA, T.getD 1 undefA, T.getD 2 undefA, T.getD 3 undefA, T.getD 4 undefA, T.getD 5 undefA, T.getD 6 undefA, T.getD 7 undefA, T.getD 8 undefA, T.getD 9 undefA, T.getD 10 undefA, T.getD 11 undefA, T.getD 12 undefA, T.getD 13 undefA, T.getD 14 undefA, T.getD 15 undefA, T.getD 16 undefA, T.getD 17 undefA, T.getD 18 undefA, T.getD 19 undefA, T.getD 20 undefA, T.getD 21 undefA, T.getD 22 undefA, T.getD 23 undefA, T.getD 24 undefA, T.getD 25 undefA, T.getD 26 undefA, T.getD 27 undefA, T.getD 28 undefA, T.getD 29 undefA, T.getD 30 undefA, T.getD 31 undefA, T.getD 32 undefA, T.getD 33 undefA, T.getD 34 undefA, T.getD 35 undefA, T.getD 36 undefA, T.getD 37 undefA, T.getD 38 undefA, T.getD 39 undefA, T.getD 40 undefA, T.getD 41 undefA, T.getD 42 undefA, T.getD 43 undefA, T.getD 44 undefA, T.getD 45 undefA, T.getD 46 undefA, T.getD 47 undefA, T.getD 48 undefA, T.getD 49 undefA, T.getD 50 undefA, T.getD 51 undefA, T.getD 52 undefA, T.getD 53 undefA, T.getD 54 undefA, T.getD 55 undefA, T.getD 56 undefA, T.getD 57 undefA, T.getD 58 undefA, T.getD 59 undefA, T.getD 60 undefA, T.getD 61 undefA, T.getD 62 undefA, T.getD 63 undefA, T.getD 64 undefA, T.getD 65 undefA, T.getD 66 undefA, T.getD 67 undefA, T.getD 68 undefA, T.getD 69 undefA, T.getD 70 undefA, T.getD 71 undefA, T.getD 72 undefA, T.getD 73 undefA, T.getD 74 undefA, T.getD 75 undefA, T.getD 76 undefA, T.getD 77 undefA, T.getD 78 undefA, T.getD 79 undefA, T.getD 80 undefA] := by
  have := expand T
  rw [h] at this
  exact this
theorem max_four {C : Ctx} {ρ : Operand → Option AV} {x y z w : Operand} {ts : Array TypeId} {a b c d : Int} (hx : ρ x = some (iv a)) (hy : ρ y = some (iv b)) (hz : ρ z = some (iv c)) (hw : ρ w = some (iv d)) :
    ∃ m, pureE C ρ (.call { callee := .builtin .max, args := #[x, y, z, w], argTypes := ts }) = some (iv m) ∧ a ≤ m ∧ b ≤ m ∧ c ≤ m ∧ d ≤ m := by
  simp only [pureE, opds, hx, hy, hz, hw, builtinP, foldMinMax]
  simp only [if_true]
  refine ⟨_, rfl, ?_, ?_, ?_, ?_⟩ <;> (repeat' split) <;> omega
structure Euc (X Y a b c d : Int) : Prop where
  lt : 0 ≤ c * X + d * Y ∧ c * X + d * Y < a * X + b * Y
  le : a * X + b * Y ≤ X
  half : 2 * ((a * X + b * Y) * (c * X + d * Y)) ≤ X * Y
  g : ∀ k : Int, (k ∣ a * X + b * Y ∧ k ∣ c * X + d * Y) ↔ (k ∣ X ∧ k ∣ Y)
  ha : -100000000 ≤ a ∧ a ≤ 100000000
  hb : -100000000 ≤ b ∧ b ≤ 100000000
  hc : -100000000 ≤ c ∧ c ≤ 100000000
  hd : -100000000 ≤ d ∧ d ≤ 100000000
theorem euclid_run (hS : OldI S) {H : Heap} {x y : AV} {xs ys : List Int} (hn : H.n + 40 < lim) (hx : Sl H x xs) (hy : Sl H y ys) (cx : Cp x) (cy : Cp y) (hxl : xs.length ≤ 1000000) (h3 : 2 < xs.length) (hyx : ys.length ≤ xs.length) (hy0 : ys ≠ []) (dx : Dig xs) (dy : Dig ys) (hle : val ys ≤ val xs) :
    Cl (ctx.plus S) 189 [x, y] H fun r H' => ∃ a b c d, r = .tup [iv a, iv b, iv c, iv d] ∧ (b ≠ 0 → Euc (val xs) (val ys) a b c d) ∧ Kp H H' 20 := by
  refine cl_of hS.h189 fn189 ?_
  have hT : (ctx.plus S).ty = tget := rfl
  refine ⟨_, len_sl hT (v := x) rfl hx, ?_⟩
  refine (leading_run S hS (x := x) (xs := xs) (N := xs.length) (by omega) hx cx (by omega) (Nat.le_refl _) hxl dx (by intro h; subst h; simp at h3)).mono ?_
  rintro _ H1 ⟨rfl, k1⟩
  have k1m := k1.m
  refine ⟨_, len_sl hT (v := x) rfl hx, ?_⟩
  refine (leading_run S hS (H := H1) (x := y) (xs := ys) (N := xs.length) (by omega) (hy.kp k1) cy (by omega) hyx hxl dy hy0).mono ?_
  rintro _ H2 ⟨rfl, k2⟩
  obtain ⟨tX, x1, x2, x3⟩ := lead_val (N := xs.length) dx
  obtain ⟨tY, y1, y2, y3⟩ := lead_val (N := xs.length) dy
  have sU := lead_small (N := xs.length) dx (Nat.le_refl _) (by omega)
  have sV := lead_small (N := xs.length) dy hyx (by omega)
  obtain ⟨U, hU⟩ : ∃ U, val (xs.drop (min (xs.length - 2) xs.length)) = U := ⟨_, rfl⟩
  obtain ⟨V, hV⟩ : ∃ V, val (ys.drop (min (xs.length - 2) ys.length)) = V := ⟨_, rfl⟩
  rw [hU] at x3 sU ⊢
  rw [hV] at y3 sV ⊢
  have hP := pw_pos (xs.length - 2)
  obtain ⟨P, hPe⟩ : ∃ P, pw (xs.length - 2) = P := ⟨_, rfl⟩
  rw [hPe] at x2 x3 y2 y3 hP
  have L0 := leh_start hP ⟨x1, x2⟩ ⟨y1, y2⟩ sU sV (by rw [← x3, ← y3]; exact hle)
  have k12 : Kp H H2 20 := k1.trans k2 (Nat.le_refl _)
  have hx0 := dx.val.1
  have hy00 := dy.val.1
  rw [x3, y3]
  rw [x3] at hle hx0
  rw [y3] at hle hy00
  have fin : ∀ a b c d : Int, (b ≠ 0 → Euc (tX + P * U) (tY + P * V) a b c d) → ∃ a' b' c' d', AV.tup [iv a, iv b, iv c, iv d] = .tup [iv a', iv b', iv c', iv d'] ∧ (b' ≠ 0 → Euc (tX + P * U) (tY + P * V) a' b' c' d') ∧ Kp H H2 20 :=
    fun a b c d h => ⟨a, b, c, d, rfl, h, k12⟩
  refine ⟨fun m s => ∃ (a b c d u v : Int) (T : List AV),
    s = ⟨T, H2, []⟩ ∧ T.length = 81 ∧ T.getD 4 undefA = iv a ∧ T.getD 5 undefA = iv b ∧ T.getD 6 undefA = iv c ∧ T.getD 7 undefA = iv d ∧ T.getD 8 undefA = iv u ∧ T.getD 9 undefA = iv v ∧ m = (c * (tX + P * U) + d * (tY + P * V)).toNat ∧ Leh P tX tY U V a b c d u v ∧ a * (tX + P * U) + b * (tY + P * V) ≤ tX + P * U, ⟨(0 * (tX + P * U) + 1 * (tY + P * V)).toNat, ?_⟩, ?_⟩
  · exact ⟨1, 0, 0, 1, U, V, _, rfl, rfl, rfl, rfl, rfl, rfl, rfl, rfl, rfl, L0, by omega⟩
  · rintro m s ⟨a, b, c, d, u, v, T, rfl, hTl, h4t, h5t, h6t, h7t, h8t, h9t, hm, L, hXle⟩
    obtain ⟨J, rfl⟩ : ∃ J : Nat → AV, T = [J 0, J 1, J 2, J 3, iv a, iv b, iv c, iv d, iv u, iv v, J 10, J 11, J 12, J 13, J 14, J 15, J 16, J 17, J 18, J 19, J 20, J 21, J 22, J 23, J 24, J 25, J 26, J 27, J 28, J 29, J 30, J 31, J 32, J 33, J 34, J 35, J 36, J 37, J 38, J 39, J 40, J 41, J 42, J 43, J 44, J 45, J 46, J 47, J 48, J 49, J 50, J 51, J 52, J 53, J 54, J 55, J 56, J 57, J 58, J 59, J 60, J 61, J 62, J 63, J 64, J 65, J 66, J 67, J 68, J 69, J 70, J 71, J 72, J 73, J 74, J 75, J 76, J 77, J 78, J 79, J 80] := ⟨fun i => T.getD i undefA, (ex81 T hTl).trans (by rw [h4t, h5t, h6t, h7t, h8t, h9t])⟩
    clear hTl h4t h5t h6t h7t h8t h9t
    have post : b ≠ 0 → Euc (tX + P * U) (tY + P * V) a b c d := fun hb => by
      rcases L.hpr with ⟨-, h, -⟩ | ⟨h1, h2⟩
      · exact absurd h hb
      · exact ⟨⟨L.hXY.1, h2⟩, hXle, h1, L.hg, L.ha, L.hb, L.hc, L.hd⟩
    have la := L.ha; have lb := L.hb; have lc := L.hc; have ld := L.hd; have lu := L.hu2; have lw := L.hv2; have lk := L.hk
    refine ⟨⟨by omega, by omega⟩, ?_⟩
    refine ⟨fun n1 => ?_, fun n1 => ?_⟩
    · refine ⟨⟨by omega, by omega⟩, ?_⟩
      refine ⟨fun n2 => ?_, fun n2 => ?_⟩
      · obtain ⟨e1, -, e3, e4, e5, e6⟩ := qr (m := u + a) (d := v + c) lk.1 (by omega)
        obtain ⟨f1, -, f3, f4, f5, f6⟩ := qr (m := u + b) (d := v + d) lk.2.1 (by omega)
        obtain ⟨q, hq⟩ : ∃ q, (u + a).tdiv (v + c) = q := ⟨_, rfl⟩
        obtain ⟨q', hq'⟩ : ∃ q, (u + b).tdiv (v + d) = q := ⟨_, rfl⟩
        rw [hq] at e1
        rw [← e1] at e3 e6
        rw [hq'] at f1
        rw [← f1] at f3 f6
        have g1 : q * (v + c) ≤ u + a := by rw [Int.mul_comm]; omega
        have g1' : u + a + 1 ≤ (q + 1) * (v + c) := by rw [Int.add_mul, Int.mul_comm q]; omega
        have hqu : q ≤ u + a := by
          have : q * 1 ≤ q * (v + c) := Int.mul_le_mul_of_nonneg_left (by omega) e6
          omega
        have hqu' : q' ≤ u + b := by
          have h1 : q' * 1 ≤ q' * (v + d) := Int.mul_le_mul_of_nonneg_left (by omega) f6
          have h2 : q' * (v + d) = (v + d) * q' := Int.mul_comm _ _
          omega
        obtain ⟨s1, s2, s3, s4, s5, s6⟩ := L.small e6 hqu g1
        refine ⟨⟨by omega, by omega⟩, ?_⟩
        refine ⟨⟨by omega, by omega⟩, ?_⟩
        refine ⟨⟨n1, by rw [hq]; unfold In64; omega⟩, ?_⟩
        refine ⟨by rw [hq]; unfold In64; omega, ?_⟩
        refine ⟨by rw [hq]; unfold In64; omega, ?_⟩
        refine ⟨by rw [hq]; unfold In64; omega, ?_⟩
        refine ⟨by rw [hq]; unfold In64; omega, ?_⟩
        refine ⟨⟨by omega, by omega⟩, ?_⟩
        refine ⟨⟨by omega, by omega⟩, ?_⟩
        refine ⟨⟨n2, by rw [hq']; unfold In64; omega⟩, ?_⟩
        refine ⟨fun hne => ?_, fun heq => ?_⟩
        · exact fin a b c d post
        · rw [hq, hq'] at heq
          refine ⟨by rw [hq]; unfold In64; omega, ?_⟩
          refine ⟨by rw [hq]; unfold In64; omega, ?_⟩
          obtain ⟨mx, hmx, m1, m2, m3, m4⟩ := max_four (C := ctx.plus S) (ρ := fun o => match o with | .tmp 58 => some (iv (a - (u + a).tdiv (v + c) * c)) | .tmp 60 => some (iv (0 - (a - (u + a).tdiv (v + c) * c))) | .tmp 61 => some (iv (b - (u + a).tdiv (v + c) * d)) | _ => some (iv (0 - (b - (u + a).tdiv (v + c) * d)))) (x := .tmp 58) (y := .tmp 60) (z := .tmp 61) (w := .tmp 63) (ts := #[3, 3, 3, 3]) rfl rfl rfl rfl
          refine ⟨_, hmx, ?_⟩
          refine ⟨fun hgt => ?_, fun hle2 => ?_⟩
          · exact fin a b c d post
          · rw [hq] at m1 m2 m3 m4
            subst heq
            have g2 : q * (v + d) ≤ u + b := by rw [Int.mul_comm]; omega
            have g2' : u + b + 1 ≤ (q + 1) * (v + d) := by rw [Int.add_mul, Int.mul_comm q]; omega
            obtain ⟨L', hlt⟩ := L.step e6 g1 g1' g2 g2' ⟨by omega, by omega⟩ ⟨by omega, by omega⟩
            refine ⟨by rw [hq]; unfold In64; omega, ?_⟩
            refine ⟨by rw [hq]; unfold In64; omega, ?_⟩
            have hX := L.hXY
            have hX' := L'.hXY
            refine ⟨((a - q * c) * (tX + P * U) + (b - q * d) * (tY + P * V)).toNat, by omega, c, d, a - q * c, b - q * d, v, u - q * v, _, rfl, by rfl, rfl, rfl, by rw [← hq]; rfl, by rw [← hq]; rfl, rfl, by rw [← hq]; rfl, rfl, L', by omega⟩
      · exact fin a b c d post
    · exact fin a b c d post
end Go.PI
/- gcd: what is said of integers. -/
open Go.Proofs
namespace Go.PI
open IM
theorem fn165 : ctx.fn 165 = some c165 := by kernel_rfl
set_option maxRecDepth 10000
set_option maxHeartbeats 4000000
variable (S : FuncId → Option (List AV → Heap → Option (AV × Heap)))
theorem gcd_of {G X Y : Int} (h0 : 0 ≤ G) (h : ∀ k : Int, k ∣ G ↔ (k ∣ X ∧ k ∣ Y)) : (Int.gcd X Y : Int) = G := by
  have h1 : G ∣ (Int.gcd X Y : Int) := by
    have := (h G).1 (Int.dvd_refl G)
    exact Int.dvd_coe_gcd this.1 this.2
  have h2 : (Int.gcd X Y : Int) ∣ G := (h _).2 ⟨Int.gcd_dvd_left X Y, Int.gcd_dvd_right X Y⟩
  have h3 : 0 ≤ (Int.gcd X Y : Int) := Int.natCast_nonneg _
  exact Int.dvd_antisymm h3 h0 h2 h1
theorem pw_two (n : Nat) : pw n ≤ (2:Int) ^ (27 * n) := by
  induction n with
  | zero => decide
  | succ n ih =>
    rw [pw_succ, Nat.mul_add, Int.pow_add]
    have e : (2:Int) ^ (27 * 1) = 134217728 := by decide
    rw [e]
    have := pw_pos n
    omega
theorem nat_dvd {k X : Int} : k ∣ (X.natAbs : Int) ↔ k ∣ X := Int.dvd_natAbs
theorem mod_half {X Y : Int} (hY : 0 < Y) (hle : Y ≤ X) : 0 ≤ X % Y ∧ X % Y < Y ∧ 2 * (Y * (X % Y)) ≤ X * Y ∧ ∀ k : Int, (k ∣ Y ∧ k ∣ X % Y) ↔ (k ∣ X ∧ k ∣ Y) := by
  have e1 := Int.mul_ediv_add_emod X Y
  have e2 := Int.emod_nonneg X (show Y ≠ 0 by omega)
  have e3 := Int.emod_lt_of_pos X hY
  refine ⟨e2, e3, ?_, fun k => ⟨fun h => ⟨?_, h.1⟩, fun h => ⟨h.2, ?_⟩⟩⟩
  · have hq : 1 ≤ X / Y := by
      rcases ilt_or (X / Y) 1 with h | h
      · exfalso
        have : Y * (X / Y) ≤ Y * 0 := Int.mul_le_mul_of_nonneg_left (by omega) (by omega)
        omega
      · exact h
    have h1 : Y * 1 ≤ Y * (X / Y) := Int.mul_le_mul_of_nonneg_left hq (by omega)
    have h2 : Y * (2 * (X % Y)) ≤ Y * X := Int.mul_le_mul_of_nonneg_left (by omega) (by omega)
    rw [Int.mul_comm X Y]
    have h3 : 2 * (Y * (X % Y)) = Y * (2 * (X % Y)) := by grind
    omega
  · rw [← e1]
    exact Int.dvd_add (Int.dvd_mul_of_dvd_left h.1) h.2
  · have h2 : X % Y = X - Y * (X / Y) := by omega
    rw [h2]
    exact Int.dvd_sub h.1 (Int.dvd_mul_of_dvd_left h.2)
end Go.PI
/- gcd and divide of the program, with plain values. -/
open Go.Proofs
namespace Go.PI
open IM
set_option maxRecDepth 10000
set_option maxHeartbeats 4000000
variable (S : FuncId → Option (List AV → Heap → Option (AV × Heap)))
theorem small_ct (hS : OldI S) {X : Int} (h0 : 0 ≤ X) (hl : (digits X).length ≤ 2) : Ct (ctx.plus S) 192 [pI X] 10 fun r => r = pn X := by
  intro H W avs hw hr hn
  cases hr with
  | cons h1 hr =>
    cases hr
    refine (vsmall_run S hS.h192 hS.h204 hS.h210 hn (sl_rel h1).1 (by omega) (small_in (dig_digits h0).sml hl)).mono ?_
    rw [val_digits]
    rintro _ H' ⟨rfl, k⟩
    exact ⟨_, rfl, .int _ _, kp_of k⟩
theorem euclid_ct (hS : OldI S) {X Y : Int} (hx : (digits X).length ≤ 1000000) (h3 : 2 < (digits X).length) (hY : 0 < Y) (hle : Y ≤ X) :
    Ct (ctx.plus S) 189 [pI X, pI Y] 40 fun r => ∃ a b c d, r = .tup [pn a, pn b, pn c, pn d] ∧ (b ≠ 0 → Euc X Y a b c d) := by
  intro H W avs hw hr hn
  cases hr with
  | cons h1 hr => cases hr with
    | cons h2 hr =>
      cases hr
      obtain ⟨s1, c1⟩ := sl_rel h1
      obtain ⟨s2, c2⟩ := sl_rel h2
      refine (euclid_run S hS (by omega) s1 s2 c1 c2 hx h3 (digits_len_le (by omega) hle) (fun h => by rw [digits_nil] at h; omega) (dig_digits (by omega)) (dig_digits (by omega)) (by rw [val_digits, val_digits]; exact hle)).mono ?_
      rw [val_digits, val_digits]
      rintro _ H' ⟨a, b, c, d, rfl, h, k⟩
      exact ⟨_, ⟨a, b, c, d, rfl, h⟩, .tup (.cons (.int _ _) (.cons (.int _ _) (.cons (.int _ _) (.cons (.int _ _) .nil)))), kp_of (k.le (by omega))⟩
theorem mixed_ct (hS : OldI S) {a b X Y : Int} (lx : (digits X).length ≤ 1000000) (ly : (digits Y).length ≤ 1000000) (ha : -100000000 ≤ a ∧ a ≤ 100000000) (hb : -100000000 ≤ b ∧ b ≤ 100000000) :
    Ct (ctx.plus S) 190 [pn a, pI X, pn b, pI Y] 20 fun r => r = pI (a * X + b * Y) := by
  intro H W avs hw hr hl
  cases hr with
  | cons h1 hr => cases hr with
    | cons h2 hr => cases hr with
      | cons h3 hr => cases hr with
        | cons h4 hr =>
          cases hr
          cases h1
          cases h3
          refine (mixed_run S hS hl (sl_rel h2).1 (sl_rel h4).1 lx ly (nrm_digits X).sml' (nrm_digits Y).sml' ha hb).mono ?_
          rintro r H' ⟨hM, hm⟩
          rw [val_digits, val_digits] at hM
          exact ⟨_, rfl, rel_mine hw hM, mine_kp hM (by omega)⟩
theorem gcd_ct (hS : OldI S) {X Y : Int} (lx : (digits X).length ≤ 400) (ly : (digits Y).length ≤ 400) :
    Ct (ctx.plus S) 165 [pI X, pI Y] 5000000 fun r => r = pI (Int.gcd X Y) := by
  refine ct_of hS.h165 fn165 ?_
  have lX : (digits (X.natAbs : Int)).length ≤ 400 := by have := abs_len (nrm_digits X); rw [val_digits] at this; omega
  have lY : (digits (Y.natAbs : Int)).length ≤ 400 := by have := abs_len (nrm_digits Y); rw [val_digits] at this; omega
  obtain ⟨A, hA⟩ : ∃ A : Int, (X.natAbs : Int) = A := ⟨_, rfl⟩
  obtain ⟨B, hB⟩ : ∃ B : Int, (Y.natAbs : Int) = B := ⟨_, rfl⟩
  have hA0 : 0 ≤ A := by omega
  have hB0 : 0 ≤ B := by omega
  have hdv : ∀ k : Int, (k ∣ A ∧ k ∣ B) ↔ (k ∣ X ∧ k ∣ Y) := fun k => by rw [← hA, ← hB, nat_dvd, nat_dvd]
  have hAB : A * B < 2 ^ 21600 := by
    have a1 := (dig_digits hA0).val.2
    have a2 := (dig_digits hB0).val.2
    rw [val_digits] at a1 a2
    rw [hA] at lX
    rw [hB] at lY
    have p1 := pw_mono lX
    have p2 := pw_mono lY
    have p3 := pw_pos 400
    have b1 : A * B ≤ A * pw 400 := Int.mul_le_mul_of_nonneg_left (by omega) hA0
    have b2 : A * pw 400 < pw 400 * pw 400 := Int.mul_lt_mul_of_pos_right (by omega) p3
    rw [← pw_add] at b2
    have b3 := pw_two (400 + 400)
    omega
  refine callq rfl (size_ct S hS.h187 hS.o.h183 hS.h193 (X := X) (by omega)) (by omega) ?_
  rintro _ rfl
  refine callq rfl (size_ct S hS.h187 hS.o.h183 hS.h193 (X := Y) (by omega)) (by omega) ?_
  rintro _ rfl
  refine callq rfl (cmp_ct S hS (by omega) (by omega)) (by omega) ?_
  rintro _ rfl
  rw [hA] at lX ⊢
  rw [hB] at lY ⊢
  refine ⟨fun hc => ?_, fun hc => ?_⟩
  all_goals
    refine ⟨fun m s => ∃ (X1 Y1 : Int) (k : Nat) (T : List PV), s = ⟨T, [], k⟩ ∧ Gt T 70 [(0, pI X1), (1, pI Y1)] ∧ m ≤ 21600 ∧ 0 ≤ Y1 ∧ Y1 ≤ X1 ∧ (X1 = A ∨ X1 ≤ B ∨ X1 ≤ A) ∧ X1 * Y1 < 2 ^ m ∧ (∀ k : Int, (k ∣ X1 ∧ k ∣ Y1) ↔ (k ∣ X ∧ k ∣ Y)) ∧ k ≤ 60 + 200 * (21600 - m), ⟨21600, ?_⟩, ?_⟩
  · have hlt : A < B := by
      rcases ilt_or A B with h | h
      · exact h
      · unfold cmpI at hc; rw [if_neg (by omega)] at hc; split at hc <;> omega
    exact ci ⟨B, A, _, _, rfl, ⟨rfl, rfl, rfl, trivial⟩, Nat.le_refl _, hA0, by omega, .inr (.inl (Int.le_refl _)), by rw [Int.mul_comm]; exact hAB, fun k => ⟨fun h => (hdv k).1 ⟨h.2, h.1⟩, fun h => ⟨((hdv k).2 h).2, ((hdv k).2 h).1⟩⟩, by omega⟩
  rotate_left
  · have hlt : B ≤ A := by
      rcases ilt_or A B with h | h
      · unfold cmpI at hc; rw [if_pos h] at hc; omega
      · exact h
    exact ci ⟨A, B, _, _, rfl, ⟨rfl, rfl, rfl, trivial⟩, Nat.le_refl _, hB0, by omega, .inl rfl, hAB, hdv, by omega⟩
  all_goals
    rintro e0 s ⟨X1, Y1, k, T, rfl, hT, he, y0, yx, hb, hxy, hd, hk⟩
    obtain ⟨J, rfl⟩ := gt_open hT
    clear hT
    have lX1 : (digits X1).length ≤ 400 := by
      rcases hb with h | h | h
      · rw [h]; exact lX
      · exact Nat.le_trans (digits_len_le (by omega) h) lY
      · exact Nat.le_trans (digits_len_le (by omega) h) lX
    have lY1 : (digits Y1).length ≤ (digits X1).length := digits_len_le y0 yx
    refine ⟨fun h2 => ?_, fun h2 => ?_⟩
    · refine ⟨fun h0 => ?_, fun h0 => ?_⟩
      · have hy1 : Y1 = 0 := digits_nil.1 (List.eq_nil_of_length_eq_zero (by omega))
        subst hy1
        exact endq rfl (show pI X1 = _ by rw [gcd_of (G := X1) (X := X) (Y := Y) (by omega) fun k => by rw [← hd k]; exact ⟨fun h => ⟨h, Int.dvd_zero k⟩, fun h => h.1⟩])
      · have hY1 : 0 < Y1 := by
          rcases ilt_or 0 Y1 with h | h
          · exact h
          · exact absurd (by rw [show Y1 = 0 by omega]; rfl) h0
        obtain ⟨e, rfl⟩ : ∃ e', e0 = e' + 1 := by
          cases e0 with
          | zero =>
            exfalso
            have : 1 * 1 ≤ X1 * Y1 := Int.mul_le_mul (by omega) (by omega) (by omega) (by omega)
            rw [Int.pow_zero] at hxy
            omega
          | succ e => exact ⟨e, rfl⟩
        have hpw : (2:Int) ^ (e + 1) = 2 * 2 ^ e := by rw [Int.pow_succ]; omega
        rw [hpw] at hxy
        refine callq rfl (euclid_ct S hS (by omega) (by omega) hY1 yx) (by omega) ?_
        rintro _ ⟨a, b, c, d, rfl, hE⟩
        refine ⟨fun hb0 => ?_, fun hb0 => ?_⟩
        · obtain ⟨q1, q2, q3, q4, q5, q6, q7, q8⟩ := hE hb0
          refine callq rfl (mixed_ct S hS (by omega) (by omega) q5 q6) (by omega) ?_
          rintro _ rfl
          refine callq rfl (mixed_ct S hS (by omega) (by omega) q7 q8) (by omega) ?_
          rintro _ rfl
          exact ⟨e, by omega, ci ⟨_, _, _, _, rfl, ⟨rfl, rfl, rfl, trivial⟩, by omega, q1.1, by omega, by omega, by omega, fun k => (q4 k).trans (hd k), by omega⟩⟩
        · refine callq rfl (quot_ct S hS (by omega) (by omega) (by omega) hY1) (by omega) ?_
          rintro _ rfl
          obtain ⟨m1, m2, m3, m4⟩ := mod_half hY1 yx
          exact ⟨e, by omega, ci ⟨Y1, X1 % Y1, _, _, rfl, ⟨rfl, rfl, rfl, trivial⟩, by omega, m1, by omega, by omega, by omega, fun k => (m4 k).trans (hd k), by omega⟩⟩
    · refine callq rfl (small_ct S hS (by omega) (by omega)) (by omega) ?_
      rintro _ rfl
      refine callq rfl (small_ct S hS y0 (by omega)) (by omega) ?_
      rintro _ rfl
      have hXb : X1 < 10000000000000000 := by
        have h1 := (dig_digits (show 0 ≤ X1 by omega)).val.2
        rw [val_digits] at h1
        have h2 := pw_mono (show (digits X1).length ≤ 2 by omega)
        have : pw 2 = 10000000000000000 := by decide
        omega
      refine ⟨fun m s => ∃ (p q : Int) (T : List PV), s = ⟨T, [], k + 10 + 10⟩ ∧ Gt T 70 [(11, pn p), (12, pn q)] ∧ m = q.toNat ∧ 0 ≤ p ∧ p < 10000000000000000 ∧ 0 ≤ q ∧ q < 10000000000000000 ∧ (∀ k : Int, (k ∣ p ∧ k ∣ q) ↔ (k ∣ X ∧ k ∣ Y)), ⟨Y1.toNat, ?_⟩, ?_⟩
      · exact ci ⟨X1, Y1, _, rfl, ⟨rfl, rfl, rfl, trivial⟩, rfl, by omega, hXb, y0, by omega, hd⟩
      · rintro m s ⟨p, q, T, rfl, hT, rfl, t1, t2, t3, t4, t5⟩
        obtain ⟨J', rfl⟩ := gt_open hT
        clear hT
        refine ⟨fun hq => ?_, fun hq => ?_⟩
        · obtain ⟨-, e2, e3, e4, e5, -⟩ := qr (m := p) (d := q) t1 (by omega)
          refine ⟨by kernel_rfl, hq, ?_⟩
          refine ⟨(p.tmod q).toNat, by omega, ci ⟨q, p.tmod q, _, rfl, ⟨rfl, rfl, rfl, trivial⟩, rfl, t3, t4, by omega, by omega, fun k => ?_⟩⟩
          rw [← t5 k, e2]
          refine ⟨fun h => ⟨?_, h.1⟩, fun h => ⟨h.2, ?_⟩⟩
          · rw [← e3]; exact Int.dvd_add (Int.dvd_mul_of_dvd_left h.1) h.2
          · have h2 : p % q = p - q * (p / q) := by omega
            rw [h2]; exact Int.dvd_sub h.1 (Int.dvd_mul_of_dvd_left h.2)
        · subst hq
          have hg := gcd_of (G := p) (X := X) (Y := Y) t1 fun k => by
            rw [← t5 k]; exact ⟨fun h => ⟨h, Int.dvd_zero k⟩, fun h => h.1⟩
          refine callq rfl (of_ct S hS.o hS.h78 (by unfold In64; omega)) (by omega) ?_
          rintro _ rfl
          exact endq rfl (by rw [hg])
end Go.PI
/- divide, Gcd and DivMod of the reference, with plain values. -/
open Go.Proofs
namespace Go.PI
open IM
set_option maxRecDepth 10000
set_option maxHeartbeats 4000000
variable (S : FuncId → Option (List AV → Heap → Option (AV × Heap)))
theorem rfn120 : ctx.fn 141 = some c141 := by kernel_rfl
theorem rfn36 : ctx.fn 134 = some c134 := by kernel_rfl
theorem rfn38 : ctx.fn 109 = some c109 := by kernel_rfl
theorem app_front {σ0 : List StB} {x : Int} {xs : List Int} {c k : Nat} {K : PV → List StB → Nat → Prop} (hl : xs.length ≤ 1000000) (hk : k < c)
    (hK : ∀ v σ' k', k' ≤ k + 1 → (∃ σ'', Fz v σ' (pIs (x :: xs)) σ'' ∧ ∀ (i : Nat) (b : StB), σ0[i]? = some b → σ''[i]? = some b) → K v σ' k') :
    AppK (ctx.plus S) c k (σ0 ++ [.live 3 [pn x]]) [22, 22] (.own σ0.length 0 1 1 1) (pIs xs) K := by
  have hold : ∀ {b' : StB} {i : Nat} {b : StB}, σ0[i]? = some b → (σ0 ++ [b'])[i]? = some b := fun h => by rw [List.getElem?_append_left (List.getElem?_eq_some_iff.1 h).1]; exact h
  refine ⟨⟨by rw [List.length_map]; show _ = _ * 1; omega, ⟨by show xs.length ≤ 2 ^ 30; omega, pones_pn _⟩, by decide, fun h => ?_, fun h => ?_⟩⟩
  · have h0 : xs = [] := List.eq_nil_of_length_eq_zero (by omega)
    subst h0
    refine ⟨3, [pn x], [pn x], push_get, by simp; exact Nat.le_refl _, rfl, ?_⟩
    rw [push_set]
    refine hK _ _ _ (by omega) ⟨_, fz_own (n := 1) (c := 1) (cs' := [pn x]) push_cont (Nat.le_refl 1) (by decide) rfl, fun i b hb => ?_⟩
    rw [push_set]
    exact hold hb
  · refine ⟨hk, 3, [pn x], pn x :: xs.map pn, push_cont, Nat.le_refl _, rfl, ?_⟩
    refine hK _ _ _ (Nat.le_refl _) ⟨((σ0 ++ [StB.live 3 [pn x]]) ++ [StB.live 3 (pn x :: xs.map pn)]).set (σ0 ++ [StB.live 3 [pn x]]).length (StB.frz 3 (pn x :: xs.map pn)), fun K hK => ⟨3, _, (x :: xs).map pn, push_cont, ⟨by simp; show (1 + xs.length) * 1 ≤ _; omega, fun _ => rfl⟩, ?_, ?_⟩, fun i b hb => ?_⟩
    · rw [List.take_of_length_le (by simp; show _ ≤ (1 + xs.length) * 1; omega)]; rfl
    · have : 1 + xs.length = (x :: xs).length := by simp; omega
      rw [this]
      exact hK
    · rw [push_set]
      rw [List.append_assoc, List.getElem?_append_left (List.getElem?_eq_some_iff.1 hb).1]
      exact hb
theorem rdivide_ct (hR : OldR S) {A B : Int} (hA : 0 ≤ A) (hB : 0 < B) (lA : (digits A).length ≤ 100) (lB : (digits B).length ≤ 18) :
    Ct (ctx.plus S) 141 [pI A, pI B] (800000 * (digits A).length + 100) fun r => r = .tup [pI (A / B), pI (A % B)] := by
  refine ct_of hR.h141 rfn120 ?_
  obtain ⟨xs, hxs⟩ : ∃ xs, digits A = xs := ⟨_, rfl⟩
  have hvx : val xs = A := by rw [← hxs]; exact val_digits A
  have hdx : Dig xs := by rw [← hxs]; exact dig_digits hA
  obtain ⟨n, hn⟩ : ∃ n, xs.length = n := ⟨_, rfl⟩
  have bB := (dig_digits (Int.le_of_lt hB)).val.2
  rw [val_digits] at bB
  have bB18 := pw_mono lB
  rw [hxs, hn] at lA
  rw [show pI A = pIs xs by rw [← hxs]; rfl, hxs, hn]
  refine ⟨by omega, ⟨by omega, by omega, by omega⟩, (List.replicate n (0 : Int)).map pn, (by rw [show ((xs.length : Int)).toNat = n by omega]; exact rep_flat n), ?_⟩
  refine ⟨⟨by omega, by omega⟩, ?_⟩
  refine ⟨fun m s => ∃ (i k : Nat) (R : Int) (Q : List Int) (cz : List PV) (σ : List StB) (T : List PV), s = ⟨T, σ, k⟩ ∧ σ[0]? = some (.live 3 cz) ∧ cz = (List.replicate i (0 : Int) ++ Q).map pn ∧ Gt T 60 [(0, pIs xs), (1, pI B), (6, .own 0 0 n n 1), (7, pI R), (8, pn ((i : Int) - 1))] ∧ m = i ∧ i + Q.length = n ∧ Dig Q ∧ 0 ≤ R ∧ R < B ∧ val (xs.drop i) = B * val Q + R ∧ k ≤ 1 + 800000 * (n - i), ⟨n, ?_⟩, ?_⟩
  · refine ⟨_, frzS_tmp (i := 7) (v := .nils) (by rfl) (by exact rfl), n, _, 0, [], _, _, _, rfl, rfl, by rw [List.append_nil], ⟨rfl, rfl, rfl, ?_, rfl, ?_, trivial⟩, rfl, rfl, (fun x hx => by simp at hx), by omega, hB, by rw [← hn, List.drop_length]; simp [IM.val], by omega⟩
    · rw [← hn]; rfl
    · rw [← hn]; rfl
  rintro m s ⟨i, k, R, Q, cz, σ, T, rfl, h0, hcz, hT, hm, hi, dQ, hR0, hRB, hv, hk⟩
  obtain ⟨J, rfl⟩ := gt_open hT
  clear hT
  refine ⟨fun hge => ?_, fun hlt => ?_⟩
  · obtain ⟨x, hx⟩ : ∃ x, xs[i - 1]? = some x := ⟨xs[i - 1]'(by omega), List.getElem?_eq_getElem _⟩
    obtain ⟨hx0, hx1⟩ := hdx x (List.mem_of_getElem? hx)
    refine ⟨⟨⟨by omega, by omega⟩, len_map_le (by omega)⟩, ?_⟩
    refine ⟨_, ld (at_map hx) (by show _ * 1 = i - 1; omega), ?_⟩
    refine ⟨by omega, part1 fzI ⟨[pn x], rfl, ?_⟩⟩
    have lR : (digits R).length ≤ 18 := Nat.le_trans (digits_len_le hR0 (Int.le_of_lt hRB)) lB
    obtain ⟨R', hR'⟩ : ∃ R', x + 100000000 * R = R' := ⟨_, rfl⟩
    have hR'0 : 0 ≤ R' := by omega
    have hR'B : R' < B * (99999999 + 1) := by omega
    have p19 : pw 19 = 100000000 * pw 18 := pw_succ 18
    have lR' : (digits R').length ≤ 19 := len_of (by omega)
    have e7 : pIs (trimL (x :: digits R)) = pI R' := by
      rw [Dig.trim (xs := x :: digits R) (fun y hy => by
        rcases List.mem_cons.1 hy with rfl | hy
        · exact ⟨hx0, hx1⟩
        · exact dig_digits hR0 y hy)]
      show pIs (digits (x + 100000000 * val (digits R))) = _
      rw [val_digits, hR']
      rfl
    refine app_front S (by omega) (by omega) ?_
    rintro v σ1 k1 hk1 ⟨σ2, hf, hσ⟩
    refine cal1 hf ((rtrim_ct S hR.h125 (by simp; omega)).post fun r h => h.trans e7) (by omega) ?_
    rintro _ rfl
    refine ⟨fun m s => ∃ (lo hi : Int) (k2 : Nat) (σ : List StB) (T : List PV), s = ⟨T, σ, k2⟩ ∧ σ[0]? = some (.live 3 cz) ∧ Gt T 60 [(0, pIs xs), (1, pI B), (6, .own 0 0 n n 1), (7, pI R'), (8, pn ((i : Int) - 1)), (9, pn lo), (10, pn hi)] ∧ 0 ≤ lo ∧ lo ≤ hi ∧ hi ≤ 99999999 ∧ B * lo ≤ R' ∧ R' < B * (hi + 1) ∧ hi - lo < 2 ^ m ∧ m ≤ 27 ∧ k2 ≤ k + 10 + 20010 * (27 - m), ⟨27, ?_⟩, ?_⟩
    · exact ci ⟨0, 99999999, _, _, _, rfl, hσ 0 _ h0, ⟨rfl, rfl, rfl, rfl, rfl, rfl, rfl, rfl, trivial⟩, by omega, by omega, by omega, by omega, hR'B, by decide, by omega, by omega⟩
    · rintro m2 s ⟨lo, hi, k2, σ, T, rfl, hs0, hT, l0, lh, h9, hB1, hB2, hp, hm27, hk2⟩
      obtain ⟨J, rfl⟩ := gt_open hT
      clear hT
      refine ⟨fun hlt => ?_, fun hge => ?_⟩
      · obtain ⟨m3, rfl⟩ : ∃ m3, m2 = m3 + 1 := by
          cases m2 with
          | zero => exfalso; rw [Int.pow_zero] at hp; omega
          | succ m3 => exact ⟨m3, rfl⟩
        have hpw : (2:Int) ^ (m3 + 1) = 2 * 2 ^ m3 := by rw [Int.pow_succ]; omega
        rw [hpw] at hp
        refine ⟨⟨by omega, by omega⟩, ⟨by omega, by omega⟩, ?_⟩
        obtain ⟨mid, hmid⟩ : ∃ mid, (lo + hi + 1).tdiv 2 = mid := ⟨_, rfl⟩
        have hmd : 2 * mid ≤ lo + hi + 1 ∧ lo + hi + 1 < 2 * mid + 2 := by
          rw [← hmid, Int.tdiv_eq_ediv_of_nonneg (by omega)]; omega
        refine ⟨⟨by decide, by rw [hmid]; unfold In64; omega⟩, ?_⟩
        rw [hmid]
        refine ⟨by omega, part1 fzI ⟨[pn mid], rfl, ?_⟩⟩
        have lm : (digits mid).length ≤ 1 := len_of (k := 1) (by have : pw 1 = 100000000 := (by decide); omega)
        have hBm : 0 ≤ B * mid := Int.mul_nonneg (by omega) (by omega)
        have hBm2 : B * mid ≤ B * 100000000 := Int.mul_le_mul_of_nonneg_left (by omega) (by omega)
        have lBm : (digits (B * mid)).length ≤ 19 := len_of (by omega)
        refine cal2 fzL (fz_own (n := 1) (c := 1) (cs' := [pn mid]) push_cont (Nat.le_refl 1) (by decide) rfl) (rmuls_ct S hR (xs := digits B) (ys := [mid]) (X := B) (Y := mid) (Rw.of (by omega)) (Rw.one (by omega)) (by omega) (by simp) (by omega)) (by omega) ?_
        rintro _ rfl
        have hs1 : ∀ {b : StB}, ((σ ++ [b]).set σ.length (StB.frz 3 [pn mid]))[0]? = some (.live 3 cz) := keep0 hs0
        refine callq rfl (less_ct S hR hR'0 hBm (by omega) (by omega)) (by omega) ?_
        rintro _ rfl
        rcases Decidable.em (R' < B * mid) with hd | hd
        · rw [decide_eq_true hd]
          refine ⟨⟨by omega, by omega⟩, ?_⟩
          exact ⟨m3, by omega, ci ⟨lo, mid - 1, _, _, _, rfl, hs1, ⟨rfl, rfl, rfl, rfl, rfl, rfl, rfl, rfl, trivial⟩, l0, by omega, by omega, hB1, by rw [show mid - 1 + 1 = mid by omega]; exact hd, by omega, by omega, by omega⟩⟩
        · rw [decide_eq_false hd]
          exact ⟨m3, by omega, ci ⟨mid, hi, _, _, _, rfl, hs1, ⟨rfl, rfl, rfl, rfl, rfl, rfl, rfl, rfl, trivial⟩, by omega, by omega, h9, by omega, hB2, by omega, by omega, by omega⟩⟩
      · have elo : lo = hi := by omega
        subst elo
        have hi1 : 1 ≤ i := by omega
        have hrep : List.replicate i (0 : Int) = List.replicate (i - 1) 0 ++ [0] := by
          obtain ⟨i', rfl⟩ : ∃ i', i = i' + 1 := ⟨i - 1, by omega⟩
          rw [List.replicate_succ']; rfl
        have hcl : cz.length = n := by rw [hcz]; simp; omega
        refine ⟨⟨by omega, by omega⟩, ?_⟩
        refine ⟨_, _, hs0, ⟨rfl, by rw [hcl]; show 0 + (_ : Int).toNat * 1 + 1 ≤ _; omega, rfl⟩, (List.replicate (i - 1) (0 : Int) ++ lo :: Q).map pn, ?_, _, rfl, ?_⟩
        · rw [hcz, hrep, show 0 + ((i : Int) - 1).toNat * t3.size = i - 1 by show 0 + (_ : Int).toNat * 1 = _; omega]
          have := put_mid (List.replicate (i - 1) 0) Q 0 lo
          rw [List.length_replicate] at this
          exact this
        refine ⟨by omega, part1 fzI ⟨[pn lo], rfl, ?_⟩⟩
        have lm : (digits lo).length ≤ 1 := len_of (k := 1) (by have : pw 1 = 100000000 := (by decide); omega)
        have hBm : 0 ≤ B * lo := Int.mul_nonneg (by omega) (by omega)
        have lBm : (digits (B * lo)).length ≤ 19 := len_of (by omega)
        refine cal2 fzL (fz_own (n := 1) (c := 1) (cs' := [pn lo]) push_cont (Nat.le_refl 1) (by decide) rfl) (rmuls_ct S hR (xs := digits B) (ys := [lo]) (X := B) (Y := lo) (Rw.of (by omega)) (Rw.one (by omega)) (by omega) (by simp) (by omega)) (by omega) ?_
        rintro _ rfl
        refine callq rfl (rsub_ct S hR (X := R') (Y := B * lo) (Rw.of (by omega)) (Rw.of (by omega))) (by omega) ?_
        rintro _ rfl
        refine ⟨⟨by omega, by omega⟩, ?_⟩
        have e1 : (i : Int) - 1 - 1 = ((i - 1 : Nat) : Int) - 1 := by omega
        rw [e1]
        have hmul : B * (lo + 1) = B * lo + B := by rw [Int.mul_add, Int.mul_one]
        refine ⟨i - 1, by omega, ci ⟨i - 1, _, R' - B * lo, lo :: Q, _, _, _, rfl, ?_, rfl, ⟨rfl, rfl, rfl, rfl, rfl, rfl, trivial⟩, rfl, by simp; omega, ?_, by omega, by omega, ?_, by omega⟩⟩
        · exact keep0 (List.getElem?_set_self (List.getElem?_eq_some_iff.1 hs0).1)
        · intro y hy
          rcases List.mem_cons.1 hy with rfl | hy
          · omega
          · exact dQ y hy
        · rw [val_cons_drop hx, show i - 1 + 1 = i by omega, hv]
          show _ = B * (lo + 100000000 * val Q) + (R' - B * lo)
          rw [← hR', Int.mul_add, Int.mul_add]
          have : B * (100000000 * val Q) = 100000000 * (B * val Q) := by grind
          omega
  · have hi0 : i = 0 := by omega
    subst hi0
    rw [List.replicate_zero, List.nil_append] at hcz
    subst hcz
    rw [List.drop_zero, hvx] at hv
    have hQn : Q.length = n := by omega
    subst hQn
    refine cal1 (fz_own (n := Q.length) (c := Q.length) (cs' := Q.map pn) (contOf_live h0) (by simp) (Nat.le_refl _) (by rw [List.take_of_length_le (by simp)])) ((rtrim_ct S hR.h125 (xs := Q) (by omega)).post fun r h => h.trans (show pIs (trimL Q) = pI (A / B) by
      have hq : val Q = A / B := by
        rw [hv]
        have h1 := Int.mul_add_ediv_left (val Q) R (show B ≠ 0 by omega)
        rw [h1, Int.ediv_eq_zero_of_lt hR0 hRB, Int.add_zero]
      rw [dQ.trim, hq]; rfl)) (by omega) ?_
    rintro _ rfl
    refine endsq rfl ?_
    have hr : A % B = R := by
      rw [hv]
      have h1 := Int.mul_add_emod_self_left B (val Q) R
      rw [h1, Int.emod_eq_of_lt hR0 hRB]
    rw [hr]
    rfl
theorem rgcd_ct (hR : OldR S) {xs ys : List Int} {X Y : Int} (hx : Rw xs X) (hy : Rw ys Y) (lX : (digits X).length ≤ 18) (lY : (digits Y).length ≤ 18) :
    Ct (ctx.plus S) 134 [pIs xs, pIs ys] 16000000000 fun r => r = pI (Int.gcd X Y) := by
  refine ct_of hR.h134 rfn36 ?_
  obtain ⟨A, hA⟩ : ∃ A : Int, (X.natAbs : Int) = A := ⟨_, rfl⟩
  obtain ⟨B, hB⟩ : ∃ B : Int, (Y.natAbs : Int) = B := ⟨_, rfl⟩
  have hA0 : 0 ≤ A := by omega
  have hB0 : 0 ≤ B := by omega
  have hdv : ∀ k : Int, (k ∣ A ∧ k ∣ B) ↔ (k ∣ X ∧ k ∣ Y) := fun k => by rw [← hA, ← hB, nat_dvd, nat_dvd]
  have lA : (digits A).length ≤ 18 := by rw [← hA]; exact Nat.le_trans (Nat.le_of_eq (by have := abs_len (nrm_digits X); rwa [val_digits] at this)) lX
  have lB : (digits B).length ≤ 18 := by rw [← hB]; exact Nat.le_trans (Nat.le_of_eq (by have := abs_len (nrm_digits Y); rwa [val_digits] at this)) lY
  have hAB : A * B < 2 ^ 1049 := by
    have a1 := (dig_digits hA0).val.2
    have a2 := (dig_digits hB0).val.2
    rw [val_digits] at a1 a2
    have p1 := pw_mono lA
    have p2 := pw_mono lB
    have p3 := pw_pos 18
    have b1 : A * B ≤ A * pw 18 := Int.mul_le_mul_of_nonneg_left (by omega) hA0
    have b2 : A * pw 18 < pw 18 * pw 18 := Int.mul_lt_mul_of_pos_right (by omega) (by omega)
    have b3 : pw 18 * pw 18 < 2 ^ 1049 := by decide
    omega
  refine callq rfl (rnorm_ct S hR hx) (by omega) ?_
  rintro _ rfl
  refine callq rfl (rsize_ct S hR (X := X) (by omega)) (by omega) ?_
  rintro _ rfl
  refine callq rfl (rnorm_ct S hR hy) (by omega) ?_
  rintro _ rfl
  refine callq rfl (rsize_ct S hR (X := Y) (by omega)) (by omega) ?_
  rintro _ rfl
  rw [hA, hB]
  refine ⟨fun m s => ∃ (X1 Y1 : Int) (k : Nat) (T : List PV), s = ⟨T, [], k⟩ ∧ Gt T 27 [(5, pI X1), (6, pI Y1)] ∧ m ≤ 1050 ∧ 0 ≤ X1 ∧ 0 ≤ Y1 ∧ (X1 ≤ A ∨ X1 ≤ B) ∧ Y1 ≤ B ∧ X1 * Y1 < 2 ^ m ∧ (X1 < Y1 → 1 ≤ m ∧ X1 * Y1 < 2 ^ (m - 1)) ∧ (∀ k : Int, (k ∣ X1 ∧ k ∣ Y1) ↔ (k ∣ X ∧ k ∣ Y)) ∧ k ≤ 3000 + 14400200 * (1050 - m), ⟨1050, ?_⟩, ?_⟩
  · exact ci ⟨A, B, _, _, rfl, ⟨rfl, rfl, rfl, trivial⟩, Nat.le_refl _, hA0, hB0, .inl (Int.le_refl _), Int.le_refl _, Int.lt_trans hAB (by decide), fun _ => ⟨by decide, hAB⟩, hdv, by omega⟩
  rintro m s ⟨X1, Y1, k, T, rfl, hT, hm, x0, y0, hx1, hy1, hxy, hsw, hd, hk⟩
  obtain ⟨J, rfl⟩ := gt_open hT
  clear hT
  have lX1 : (digits X1).length ≤ 18 := by
    rcases hx1 with h | h
    · exact Nat.le_trans (digits_len_le x0 h) lA
    · exact Nat.le_trans (digits_len_le x0 h) lB
  have lY1 : (digits Y1).length ≤ 18 := Nat.le_trans (digits_len_le y0 hy1) lB
  refine ⟨fun hgt => ?_, fun hle => ?_⟩
  · have hY1 : 0 < Y1 := by
      rcases ilt_or 0 Y1 with h | h
      · exact h
      · have : Y1 = 0 := by omega
        subst this
        simp [show digits 0 = [] from rfl] at hgt
    obtain ⟨e, rfl⟩ : ∃ e', m = e' + 1 := by
      cases m with
      | zero =>
        exfalso
        rcases ilt_or X1 Y1 with h | h
        · have := (hsw h).1; omega
        · have : 1 * 1 ≤ X1 * Y1 := Int.mul_le_mul (by omega) (by omega) (by omega) (by omega)
          rw [Int.pow_zero] at hxy
          omega
      | succ e => exact ⟨e, rfl⟩
    have hpw : (2:Int) ^ (e + 1) = 2 * 2 ^ e := by rw [Int.pow_succ]; omega
    rw [hpw] at hxy
    refine callq rfl (rdivide_ct S hR x0 hY1 (by omega) lY1) (by omega) ?_
    rintro _ rfl
    have e1 := Int.mul_ediv_add_emod X1 Y1
    have e2 := Int.emod_nonneg X1 (show Y1 ≠ 0 by omega)
    have e3 := Int.emod_lt_of_pos X1 hY1
    have hstep : Y1 * (X1 % Y1) < 2 ^ e := by
      rcases ilt_or X1 Y1 with h | h
      · rw [Int.emod_eq_of_lt x0 h, Int.mul_comm]
        exact (hsw h).2
      · have := (mod_half hY1 h).2.2.1
        omega
    exact ⟨e, by omega, ci ⟨Y1, X1 % Y1, _, _, rfl, ⟨rfl, rfl, rfl, trivial⟩, by omega, by omega, e2, .inr hy1, by omega, hstep, (fun h => by omega), fun k => by
      rw [← hd k]
      refine ⟨fun h => ⟨?_, h.1⟩, fun h => ⟨h.2, ?_⟩⟩
      · rw [← e1]; exact Int.dvd_add (Int.dvd_mul_of_dvd_left h.1) h.2
      · have h2 : X1 % Y1 = X1 - Y1 * (X1 / Y1) := by omega
        rw [h2]; exact Int.dvd_sub h.1 (Int.dvd_mul_of_dvd_left h.2), by omega⟩⟩
  · have hY1 : Y1 = 0 := digits_nil.1 (List.eq_nil_of_length_eq_zero (by omega))
    subst hY1
    exact endq rfl (show pI X1 = _ by rw [gcd_of (G := X1) (X := X) (Y := Y) x0 fun k => by rw [← hd k]; exact ⟨fun h => ⟨h, Int.dvd_zero k⟩, fun h => h.1⟩])
theorem rdivmod_ct (hR : OldR S) {xs ys : List Int} {X Y : Int} (hx : Rw xs X) (hy : Rw ys Y) (lX : (digits X).length ≤ 18) (lY : (digits Y).length ≤ 18) (hY : Y ≠ 0) :
    Ct (ctx.plus S) 109 [pIs xs, pIs ys] 20000000 fun r => r = .tup [pI (X / Y), pI (X % Y), pn 0] := by
  refine ct_of hR.h109 rfn38 ?_
  have D := Hid.mk (div_signs (X := X) hY)
  obtain ⟨A, hA⟩ : ∃ A : Int, (X.natAbs : Int) = A := ⟨_, rfl⟩
  obtain ⟨B, hB⟩ : ∃ B : Int, (Y.natAbs : Int) = B := ⟨_, rfl⟩
  have hA0 : 0 ≤ A := by omega
  have hB0 : 0 < B := by omega
  have lA : (digits A).length ≤ 18 := by rw [← hA]; exact Nat.le_trans (Nat.le_of_eq (by have := abs_len (nrm_digits X); rwa [val_digits] at this)) lX
  have lB : (digits B).length ≤ 18 := by rw [← hB]; exact Nat.le_trans (Nat.le_of_eq (by have := abs_len (nrm_digits Y); rwa [val_digits] at this)) lY
  refine callq rfl (rnorm_ct S hR hx) (by omega) ?_
  rintro _ rfl
  refine callq rfl (rnorm_ct S hR hy) (by omega) ?_
  rintro _ rfl
  refine ⟨fun h => absurd (digits_nil.1 (List.eq_nil_of_length_eq_zero (by omega))) hY, fun _ => ?_⟩
  refine callq rfl (rsize_ct S hR (X := X) (by omega)) (by omega) ?_
  rintro _ rfl
  refine callq rfl (rsize_ct S hR (X := Y) (by omega)) (by omega) ?_
  rintro _ rfl
  rw [hA, hB] at D ⊢
  refine callq rfl (rdivide_ct S hR hA0 hB0 (by omega) lB) (by omega) ?_
  rintro _ rfl
  obtain ⟨Q, hQ⟩ : ∃ Q, A / B = Q := ⟨_, rfl⟩
  obtain ⟨W, hW⟩ : ∃ W, A % B = W := ⟨_, rfl⟩
  rw [hQ, hW] at D ⊢
  have hW0 : 0 ≤ W := by rw [← hW]; exact Int.emod_nonneg _ (by omega)
  have hWl : W < B := by rw [← hW]; exact Int.emod_lt_of_pos _ hB0
  have hQ0 : 0 ≤ Q := by rw [← hQ]; exact Int.ediv_nonneg hA0 (by omega)
  have hQl : Q ≤ A := by rw [← hQ]; exact Int.ediv_le_self _ hA0
  have bA := (dig_digits hA0).val.2
  have bB := (dig_digits (Int.le_of_lt hB0)).val.2
  rw [val_digits] at bA bB
  have p1 := pw_mono lA
  have p2 := pw_mono lB
  have p3 : pw 19 = 100000000 * pw 18 := pw_succ 18
  have p4 := pw_pos 18
  have lq : ∀ q : Int, -pw 19 < q → q < pw 19 → (digits q).length ≤ 19 := fun q h1 h2 => len_of ⟨h1, h2⟩
  have lQ := lq Q (by omega) (by omega)
  have lQ' := lq (-Q) (by omega) (by omega)
  have lQ1 := lq (-Q - 1) (by omega) (by omega)
  have lW := lq W (by omega) (by omega)
  have lW' := lq (-W) (by omega) (by omega)
  refine callq rfl (rngv_ct S hR.h143 (X := X) (by omega)) (by omega) ?_
  rintro _ rfl
  have fin : ∀ {σ : List StB} {q w : Int}, (q = X / Y) → (w = X % Y) → EndsK σ [pI q, pI w, pn 0] fun r => r = .tup [pI (X / Y), pI (X % Y), pn 0] := fun h1 h2 => endsq rfl (by rw [h1, h2])
  rcases Decidable.em (X < 0) with hX | hX
  · rw [decide_eq_true hX]
    refine callq rfl (rneg_ct S hR (X := Q) (Rw.of (by omega))) (by omega) ?_
    rintro _ rfl
    refine callq rfl (rneg_ct S hR (X := W) (Rw.of (by omega))) (by omega) ?_
    rintro _ rfl
    refine ⟨fun hw => ?_, fun hw => ?_⟩
    · have hW1 : W ≠ 0 := fun h => by rw [h] at hw; exact absurd hw (by decide)
      refine ⟨by omega, part1 fzI ⟨[pn 1], rfl, ?_⟩⟩
      refine cal2 fzL (fz_own (n := 1) (c := 1) (cs' := [pn 1]) rfl (Nat.le_refl 1) (by decide) rfl) (rsub_ct S hR (X := -Q) (Y := 1) (Rw.of (by omega)) (Rw.one (by omega))) (by omega) ?_
      rintro _ rfl
      refine callq rfl (rsize_ct S hR (X := Y) (by omega)) (by omega) ?_
      rintro _ rfl
      rw [hB]
      refine callq rfl (radd_ct S hR (X := -W) (Y := B) (Rw.of (by omega)) (Rw.of (by omega))) (by omega) ?_
      rintro _ rfl
      refine callq rfl (rngv_ct S hR.h143 (X := Y) (by omega)) (by omega) ?_
      rintro _ rfl
      rcases Decidable.em (Y < 0) with hY' | hY'
      · rw [decide_eq_true hY']
        refine callq rfl (rneg_ct S hR (X := -Q - 1) (Rw.of (by omega))) (by omega) ?_
        rintro _ rfl
        refine fin ?_ ?_
        · have d9 := D.h.2.2.2.2.2.2.2.2 hX hY' hW1; omega
        · have d3 := D.h.2.2.1 hX hW1; omega
      · rw [decide_eq_false hY']
        refine fin ?_ ?_
        · have d8 := D.h.2.2.2.2.2.2.2.1 hX (by omega) hW1; omega
        · have d3 := D.h.2.2.1 hX hW1; omega
    · have hW1 : W = 0 := by
        have := digits_nil.1 (List.eq_nil_of_length_eq_zero (show (digits (-W)).length = 0 by omega))
        omega
      refine callq rfl (rngv_ct S hR.h143 (X := Y) (by omega)) (by omega) ?_
      rintro _ rfl
      rcases Decidable.em (Y < 0) with hY' | hY'
      · rw [decide_eq_true hY']
        refine callq rfl (rneg_ct S hR (X := -Q) (Rw.of (by omega))) (by omega) ?_
        rintro _ rfl
        refine fin ?_ ?_
        · have d7 := D.h.2.2.2.2.2.2.1 hX hY' hW1; omega
        · have d2 := D.h.2.1 hX hW1; omega
      · rw [decide_eq_false hY']
        refine fin ?_ ?_
        · rw [D.h.2.2.2.2.2.1 hX (by omega) hW1]
        · have d2 := D.h.2.1 hX hW1; omega
  · rw [decide_eq_false hX]
    refine callq rfl (rngv_ct S hR.h143 (X := Y) (by omega)) (by omega) ?_
    rintro _ rfl
    rcases Decidable.em (Y < 0) with hY' | hY'
    · rw [decide_eq_true hY']
      refine callq rfl (rneg_ct S hR (X := Q) (Rw.of (by omega))) (by omega) ?_
      rintro _ rfl
      exact fin (by rw [D.h.2.2.2.2.1 (by omega) hY']) (by rw [D.h.1 (by omega)])
    · rw [decide_eq_false hY']
      exact fin (by rw [D.h.2.2.2.1 (by omega) (by omega)]) (by rw [D.h.1 (by omega)])
end Go.PI
