/- Own work of the verifier, group PiZ: PiExp PiExp2. -/
import Derived.Test.YtgmhmahdmbdngaaGreatDoorPiY
import Derived.Test.YtgmhmahdmbdngaaGreatDoorPiX
import Derived.Test.YtgmhmahdmbdngaaGreatDoorPiL
import Derived.Test.YtgmhmahdmbdngaaGreatDoorPiO
set_option linter.all false
set_option linter.deprecated false
/- The integers' exported functions. -/
open Go.Proofs
namespace Go.PI
open IM
theorem fn24 : ctx.fn 24 = some c24 := by kernel_rfl
theorem fn27 : ctx.fn 27 = some c27 := by kernel_rfl
theorem fn29 : ctx.fn 29 = some c29 := by kernel_rfl
theorem fn31 : ctx.fn 31 = some c31 := by kernel_rfl
theorem fn33 : ctx.fn 33 = some c33 := by kernel_rfl
theorem fn35 : ctx.fn 35 = some c35 := by kernel_rfl
theorem fn37 : ctx.fn 37 = some c37 := by kernel_rfl
theorem fn23 : ctx.fn 23 = some c23 := by kernel_rfl
theorem fn19 : ctx.fn 19 = some c19 := by kernel_rfl
set_option maxRecDepth 10000
set_option maxHeartbeats 4000000
/-- v is an integer X -/
structure IV (H : Heap) (v : AV) (xs : List Int) (X : Int) : Prop where
  sl : Sl H v xs
  in64 : ∀ e ∈ xs, In64 e
  len : xs.length ≤ 200
  val : val xs = X
theorem IV.kp {H H' : Heap} {v : AV} {xs : List Int} {X : Int} {c : Nat} (h : IV H v xs X) (k : Kp H H' c) : IV H' v xs X := ⟨h.sl.kp k, h.in64, h.len, h.val⟩
theorem len_of {v : Int} {k : Nat} (h : -pw k < v ∧ v < pw k) : (digits v).length ≤ k := by
  have key : ∀ w : Int, 0 ≤ w → w < pw k → (digits w).length ≤ k := fun w h0 h1 => by
    rcases Nat.lt_or_ge k (digits w).length with hl | hl
    · exfalso
      have := (nrm_len (dig_digits h0) (nrm_digits w).2 (by intro h; rw [h] at hl; simp at hl)).1
      rw [val_digits] at this
      have := pw_mono (show k ≤ (digits w).length - 1 by omega)
      omega
    · exact hl
  rcases ilt_or v 0 with h0 | h0
  · have := abs_len (nrm_digits v)
    rw [val_digits] at this
    rw [← this]
    exact key _ (by omega) (by omega)
  · exact key v h0 h.2
theorem IV.of {H : Heap} {v : AV} {X : Int} (h : Sl H v (digits X)) (hb : -pw 200 < X ∧ X < pw 200) : IV H v (digits X) X :=
  ⟨h, fun e he => by have := (nrm_digits X).sml' e he; unfold In64; omega, len_of hb, val_digits X⟩
theorem val_bound {xs : List Int} (h : ∀ e ∈ xs, In64 e) : -(10000000000000000000 * (2 * pw xs.length - 1)) ≤ val xs ∧ val xs ≤ 10000000000000000000 * (2 * pw xs.length - 1) := by
  induction xs with
  | nil => decide
  | cons x xs ih =>
    have h1 := h x (by simp)
    have h2 := ih fun e he => h e (by simp [he])
    unfold In64 at h1
    simp only [val, List.length_cons, pw]
    omega
theorem IV.dlen {H : Heap} {v : AV} {xs : List Int} {X : Int} (h : IV H v xs X) : (digits X).length ≤ 203 := by
  have hb := val_bound h.in64
  rw [h.val] at hb
  have h1 := pw_mono h.len
  have h2 : pw 203 = 1000000000000000000000000 * pw 200 := by decide
  have h3 := pw_pos 200
  exact len_of ⟨by omega, by omega⟩

section
variable (S : FuncId → Option (List AV → Heap → Option (AV × Heap)))
theorem normal_kp (hS : OldI S) {H : Heap} {x : AV} {xs : List Int} {X : Int} (hn : H.n + 20 < lim) (hx : IV H x xs X) :
    Cl (ctx.plus S) 106 [x] H fun r H' => Sl H' r (digits X) ∧ (Cp x → Cp r) ∧ Kp H H' 8 := by
  have hl := hx.len
  refine (normal_run2 S hS.o hS.h106 hS.h180 hS.h109 (by omega) hx.sl (by omega) hx.in64).mono ?_
  rintro r H' ⟨h, hm⟩
  rw [← hx.val]
  split at h
  · rename_i hb
    obtain ⟨rfl, rfl⟩ := h
    rw [digits_val (nrmB_nrm hb)]
    exact ⟨hx.sl, id, Kp.refl _ _⟩
  · exact ⟨h.toSl, fun _ => h.cp, h.kp hm⟩
theorem normalE_kp (hS : OldI S) (h24 : S 24 = none) {H : Heap} {x : AV} {xs : List Int} {X : Int} (hn : H.n + 100 < lim) (hx : IV H x xs X) :
    Cl (ctx.plus S) 24 [x] H fun r H' => Sl H' r (digits X) ∧ Kp H H' 16 := by
  refine cl_of h24 fn24 ?_
  have hd := hx.dlen
  refine (normal_kp S hS (by omega) hx).mono ?_
  rintro r H1 ⟨h1, -, k1⟩
  have := k1.m
  refine (clone_kp S hS.h109 (by omega) h1 (by omega)).mono ?_
  rintro r2 H2 ⟨⟨h2, -⟩, k2⟩
  exact ⟨h2, k1.trans k2 (by omega)⟩
theorem add_kp (hS : OldI S) (h27 : S 27 = none) {H : Heap} {x y : AV} {xs ys : List Int} {X Y : Int} (hn : H.n + 100 < lim) (hx : IV H x xs X) (hy : IV H y ys Y) :
    Cl (ctx.plus S) 27 [x, y] H fun r H' => Sl H' r (digits (X + Y)) ∧ Kp H H' 24 := by
  refine cl_of h27 fn27 ?_
  have hd := hx.dlen
  have hd' := hy.dlen
  refine (normal_kp S hS (by omega) hx).mono ?_
  rintro a H1 ⟨h1, -, k1⟩
  have := k1.m
  refine (normal_kp S hS (H := H1) (by omega) (hy.kp k1)).mono ?_
  rintro b H2 ⟨h2, -, k2⟩
  have := k2.m
  refine (plus_kp S hS (H := H2) (by omega) (h1.kp k2) h2 (by omega) (by omega) (nrm_digits _) (nrm_digits _) (by omega)).mono ?_
  rintro r H3 ⟨h3, k3⟩
  rw [val_digits, val_digits, Int.one_mul] at h3
  exact ⟨h3, k1.trans (k2.trans k3 (Nat.le_refl _)) (by omega)⟩
theorem sub_kp (hS : OldI S) (h29 : S 29 = none) {H : Heap} {x y : AV} {xs ys : List Int} {X Y : Int} (hn : H.n + 100 < lim) (hx : IV H x xs X) (hy : IV H y ys Y) :
    Cl (ctx.plus S) 29 [x, y] H fun r H' => Sl H' r (digits (X - Y)) ∧ Kp H H' 24 := by
  refine cl_of h29 fn29 ?_
  have hd := hx.dlen
  have hd' := hy.dlen
  refine (normal_kp S hS (by omega) hx).mono ?_
  rintro a H1 ⟨h1, -, k1⟩
  have := k1.m
  refine (normal_kp S hS (H := H1) (by omega) (hy.kp k1)).mono ?_
  rintro b H2 ⟨h2, -, k2⟩
  have := k2.m
  refine (plus_kp S hS (H := H2) (f := -1) (by omega) (h1.kp k2) h2 (by omega) (by omega) (nrm_digits _) (nrm_digits _) (by omega)).mono ?_
  rintro r H3 ⟨h3, k3⟩
  rw [val_digits, val_digits, show X + -1 * Y = X - Y by omega] at h3
  exact ⟨h3, k1.trans (k2.trans k3 (Nat.le_refl _)) (by omega)⟩
theorem mul_kp (hS : OldI S) (h31 : S 31 = none) {H : Heap} {x y : AV} {xs ys : List Int} {X Y : Int} (hn : H.n + 100 < lim) (hx : IV H x xs X) (hy : IV H y ys Y) :
    Cl (ctx.plus S) 31 [x, y] H fun r H' => Sl H' r (digits (X * Y)) ∧ Kp H H' 24 := by
  refine cl_of h31 fn31 ?_
  have hd := hx.dlen
  have hd' := hy.dlen
  refine (normal_kp S hS (by omega) hx).mono ?_
  rintro a H1 ⟨h1, -, k1⟩
  have := k1.m
  refine (normal_kp S hS (H := H1) (by omega) (hy.kp k1)).mono ?_
  rintro b H2 ⟨h2, -, k2⟩
  have := k2.m
  refine (product_run2 S hS.o hS.h116 (H := H2) (by omega) (h1.kp k2) h2 (by omega) (by omega) (nrm_digits _).sml' (nrm_digits _).sml').mono ?_
  rintro r H3 ⟨h3, hm⟩
  rw [val_digits, val_digits] at h3
  split at h3
  · rename_i h0
    obtain ⟨rfl, rfl⟩ := h3
    have hz : X * Y = 0 := by
      rcases h0 with h | h
      · rw [digits_nil.1 h]; omega
      · rw [digits_nil.1 h]; omega
    exact ⟨by rw [hz]; rfl, k1.trans k2 (by omega)⟩
  · exact ⟨h3.toSl, k1.trans (k2.trans (h3.kp hm) (Nat.le_refl _)) (by omega)⟩
theorem cmp_kp (hS : OldI S) (h33 : S 33 = none) {H : Heap} {x y : AV} {xs ys : List Int} {X Y : Int} (hn : H.n + 100 < lim) (hx : IV H x xs X) (hy : IV H y ys Y) :
    Cl (ctx.plus S) 33 [x, y] H fun r H' => r = iv (cmpI X Y) ∧ Kp H H' 26 := by
  refine cl_of h33 fn33 ?_
  have hd := hx.dlen
  have hd' := hy.dlen
  refine (normal_kp S hS (by omega) hx).mono ?_
  rintro a H1 ⟨h1, -, k1⟩
  have := k1.m
  refine (normal_kp S hS (H := H1) (by omega) (hy.kp k1)).mono ?_
  rintro b H2 ⟨h2, -, k2⟩
  have := k2.m
  refine (compare_run S hS.h107 hS.o.h125 hS.h181 hS.h227 hS.h182 hS.h228 (H := H2) (by omega) (h1.kp k2) h2 (by omega) (by omega) (nrm_digits _) (nrm_digits _)).mono ?_
  rintro r H3 ⟨rfl, k3⟩
  rw [val_digits, val_digits]
  exact ⟨rfl, k1.trans (k2.trans k3 (Nat.le_refl _)) (by omega)⟩
theorem gcd_kp (hS : OldI S) (h35 : S 35 = none) {H : Heap} {x y : AV} {xs ys : List Int} {X Y : Int} (hn : H.n + 2000000 < lim) (hx : IV H x xs X) (hy : IV H y ys Y) (cx : Cp x) (cy : Cp y) :
    Cl (ctx.plus S) 35 [x, y] H fun r H' => Sl H' r (digits (Int.gcd X Y : Int)) ∧ Kp H H' 1300000 := by
  refine cl_of h35 fn35 ?_
  have hd := hx.dlen
  have hd' := hy.dlen
  refine (normal_kp S hS (by omega) hx).mono ?_
  rintro a H1 ⟨h1, c1, k1⟩
  have := k1.m
  refine (normal_kp S hS (H := H1) (by omega) (hy.kp k1)).mono ?_
  rintro b H2 ⟨h2, c2, k2⟩
  have := k2.m
  refine (gcd_run S hS (H := H2) (by omega) (h1.kp k2) h2 (c1 cx) (c2 cy) (by omega) (by omega) (nrm_digits _) (nrm_digits _)).mono ?_
  rw [val_digits, val_digits]
  rintro r H3 ⟨h3, k3⟩
  have := k3.m
  have hgl : (digits (Int.gcd X Y : Int)).length ≤ 1000000 := by
    have lX := abs_len (nrm_digits X)
    have lY := abs_len (nrm_digits Y)
    rw [val_digits] at lX lY
    by_cases hX : X.natAbs = 0
    · have e : Int.gcd X Y = Y.natAbs := by unfold Int.gcd; rw [hX, Nat.gcd_zero_left]
      rw [e]; omega
    · have e : Int.gcd X Y ≤ X.natAbs := Nat.gcd_le_left _ (by omega)
      have := digits_len_le (v := (Int.gcd X Y : Int)) (w := (X.natAbs : Int)) (by omega) (by omega)
      omega
  refine (clone_kp S hS.h109 (H := H3) (by omega) h3 hgl).mono ?_
  rintro r2 H4 ⟨⟨h4, -⟩, k4⟩
  exact ⟨h4, k1.trans (k2.trans (k3.trans k4 (Nat.le_refl _)) (Nat.le_refl _)) (by omega)⟩
end
end Go.PI

/- DivMod, Ints, short. -/
open Go.Proofs
namespace Go.PI
open IM
set_option maxRecDepth 10000
set_option maxHeartbeats 4000000
variable (S : FuncId → Option (List AV → Heap → Option (AV × Heap)))
theorem divmod_kp (hS : OldI S) (h37 : S 37 = none) {H : Heap} {x y : AV} {xs ys : List Int} {X Y : Int} (hn : H.n + 400 < lim) (hx : IV H x xs X) (hy : IV H y ys Y) :
    Cl (ctx.plus S) 37 [x, y] H fun r H' => ∃ q w, r = .tup [q, w, iv (if Y = 0 then 12 else 0)] ∧ Sl H' q (digits (if Y = 0 then 0 else X / Y)) ∧ Sl H' w (digits (if Y = 0 then 0 else X % Y)) ∧ Kp H H' 140 := by
  refine cl_of h37 fn37 ?_
  have hT : (ctx.plus S).ty = tget := rfl
  have hd := hx.dlen
  have hd' := hy.dlen
  refine (normal_kp S hS (by omega) hx).mono ?_
  rintro a H1 ⟨h1, -, k1⟩
  have := k1.m
  refine (normal_kp S hS (H := H1) (by omega) (hy.kp k1)).mono ?_
  rintro b H2 ⟨h2, -, k2⟩
  have := k2.m
  refine ⟨_, len_sl hT (v := b) rfl h2, ?_⟩
  refine ⟨fun h0 => ?_, fun h0 => ?_⟩
  · have hY : Y = 0 := digits_nil.1 (List.eq_nil_of_length_eq_zero (by omega))
    subst hY
    exact ⟨.nils, .nils, rfl, rfl, rfl, k1.trans k2 (by omega)⟩
  · have hY : Y ≠ 0 := fun h => h0 (by rw [h]; rfl)
    refine (divide_run S hS (H := H2) (by omega) (h1.kp k2) h2 (by omega) (by omega) (nrm_digits _) (nrm_digits _) (fun h => hY (digits_nil.1 h))).mono ?_
    rw [val_digits, val_digits]
    rintro _ H3 ⟨q, w, rfl, hq, hw, k3⟩
    have hfin : ∃ q' w', AV.tup [q, w, iv 0] = .tup [q', w', iv (if Y = 0 then 12 else 0)] ∧ Sl H3 q' (digits (if Y = 0 then 0 else X / Y)) ∧ Sl H3 w' (digits (if Y = 0 then 0 else X % Y)) ∧ Kp H H3 140 := by
      rw [if_neg hY, if_neg hY, if_neg hY]
      exact ⟨q, w, rfl, hq, hw, k1.trans (k2.trans k3 (Nat.le_refl _)) (by omega)⟩
    exact hfin

theorem ex26 (T : List AV) (h : T.length = 26) : T = [T.getD 0 undefA, T.getD 1 undefA, T.getD 2 undefA, T.getD 3 undefA, T.getD 4 undefA, T.getD 5 undefA, T.getD 6 undefA, T.getD 7 undefA, T.getD 8 undefA, T.getD 9 undefA, T.getD 10 undefA, T.getD 11 undefA, T.getD 12 undefA, T.getD 13 undefA, T.getD 14 undefA, T.getD 15 undefA, T.getD 16 undefA, T.getD 17 undefA, T.getD 18 undefA, T.getD 19 undefA, T.getD 20 undefA, T.getD 21 undefA, T.getD 22 undefA, T.getD 23 undefA, T.getD 24 undefA, T.getD 25 undefA] := by
  have := expand T
  rw [h] at this
  exact this
theorem ints_true (h23 : S 23 = none) {H : Heap} {x y : AV} {xs : List Int} (hx : Sl H x xs) (hy : Sl H y xs) (hl : xs.length ≤ 1000000) :
    Cl (ctx.plus S) 23 [x, y] H fun r H' => r = .bool true ∧ H = H' := by
  refine cl_of h23 fn23 ?_
  have hT : (ctx.plus S).ty = tget := rfl
  refine ⟨_, len_sl hT (v := x) rfl hx, ?_⟩
  refine ⟨_, len_sl hT (v := y) rfl hy, ?_⟩
  refine ⟨fun h => absurd rfl h, fun _ => ?_⟩
  refine ⟨fun m s => ∃ (i : Nat) (n : Int) (T : List AV), s = ⟨T, H, []⟩ ∧ T.length = 26 ∧ T.getD 0 undefA = x ∧ T.getD 1 undefA = y ∧ T.getD 5 undefA = iv n ∧ m = xs.length - i ∧ n = i ∧ i ≤ xs.length, ⟨xs.length, ?_⟩, ?_⟩
  · exact ⟨0, _, _, rfl, rfl, rfl, rfl, rfl, rfl, rfl, Nat.zero_le _⟩
  · rintro m s ⟨i, n, T, rfl, hTl, h0t, h1t, h5t, hm, rfl, hi⟩
    obtain ⟨J, rfl⟩ : ∃ J : Nat → AV, T = [x, y, J 2, J 3, J 4, iv i, J 6, J 7, J 8, J 9, J 10, J 11, J 12, J 13, J 14, J 15, J 16, J 17, J 18, J 19, J 20, J 21, J 22, J 23, J 24, J 25] := ⟨fun i => T.getD i undefA, (ex26 T hTl).trans (by rw [h0t, h1t, h5t])⟩
    clear hTl h0t h1t h5t
    refine ⟨_, len_sl hT (v := x) rfl hx, ?_⟩
    refine ⟨fun hlt => ?_, fun hge => ?_⟩
    · obtain ⟨e, he⟩ : ∃ e, xs[i]? = some e := ⟨xs[i]'(by omega), List.getElem?_eq_getElem _⟩
      have hne : xs ≠ [] := by intro h; subst h; simp at he
      obtain ⟨bx, ox, hbx, hax⟩ := hx.addr hne
      obtain ⟨b2, o2, hb2, ha2⟩ := hy.addr hne
      have lx : loadE (ctx.plus S) 3 (addr x i) H = some (iv e) := load_sl hT hx he
      have ly : loadE (ctx.plus S) 3 (addr y i) H = some (iv e) := load_sl hT hy he
      have lx' : loadE (ctx.plus S) 3 (.ptr bx (ox + i)) H = some (iv e) := by rw [← hax]; exact lx
      have ly' : loadE (ctx.plus S) 3 (.ptr b2 (o2 + i)) H = some (iv e) := by rw [← ha2]; exact ly
      have si : ∀ n : Int, (iv n).same (iv n) = true := fun n => by simp [AV.same, AV.sames]
      refine ⟨_, idx_sl hT (v := x) (n := (i : Int)) (k := i) rfl rfl hx rfl (by omega), ?_⟩
      refine ⟨_, lx, ?_⟩
      refine ⟨_, idx_sl hT (v := y) (n := (i : Int)) (k := i) rfl rfl hy rfl (by omega), ?_⟩
      refine ⟨_, ly, ?_⟩
      refine ⟨fun h => absurd rfl h, fun _ => ?_⟩
      refine ⟨draw_of2 H 9 (by kernel_rfl) rfl ?_ ?_ ?_, ?_⟩
      · exact ⟨trivial, trivial, trivial, ⟨_, _, _, congrArg some (hax _), hbx, lx', si _⟩, trivial, trivial, trivial, ⟨_, _, _, congrArg some (ha2 _), hb2, ly', si _⟩, trivial, trivial⟩
      · repeat' (first | exact trivial | refine ⟨fun _ _ => rfl, ?_⟩)
      · repeat' (first | exact trivial | refine ⟨Nat.le_refl _, ?_⟩)
      refine ⟨⟨by omega, by omega⟩, ?_⟩
      exact ⟨xs.length - (i + 1), by omega, i + 1, _, _, rfl, rfl, rfl, rfl, rfl, rfl, rfl, by omega⟩
    · exact ⟨rfl, rfl⟩

/-- whether all slices of a list have at most five elements -/
theorem short5_run (h19 : S 19 = none) {H : Heap} {b : Nat} {vs : List AV} {ls : List Nat} (hb : H.get b = .cells true 22 vs) (hvl : vs.length = ls.length) (hln : ∀ l ∈ ls, l ≤ 9223372036854775807) (hvs : ∀ (i : Nat) v l, vs[i]? = some v → ls[i]? = some l → slen v = some l) (hl : vs.length ≤ 1000) :
    Cl (ctx.plus S) 19 [.sl b 0 vs.length vs.length] H fun r H' => r = .bool (ls.all fun l => decide (l ≤ 5)) ∧ H = H' := by
  refine cl_of h19 fn19 ?_
  have hT : (ctx.plus S).ty = tget := rfl
  refine ⟨fun m s => ∃ (i : Nat) (n : Int) (j1 j2 j4 j5 j6 j7 j8 j9 j10 j11 j12 j13 j14 j15 : AV),
    s = ⟨[.sl b 0 vs.length vs.length, j1, j2, iv n, j4, j5, j6, j7, j8, j9, j10, j11, j12, j13, j14, j15], H, []⟩ ∧ m = vs.length - i ∧ n = i ∧ i ≤ vs.length ∧ (∀ j l, j < i → ls[j]? = some l → l ≤ 5), ⟨vs.length, ?_⟩, ?_⟩
  · exact ⟨0, _, _, _, _, _, _, _, _, _, _, _, _, _, _, _, rfl, rfl, rfl, Nat.zero_le _, fun j l h => by omega⟩
  · rintro m s ⟨i, n, j1, j2, j4, j5, j6, j7, j8, j9, j10, j11, j12, j13, j14, j15, rfl, hm, rfl, hi, hj⟩
    refine ⟨_, len_any hT (ty59 hT) rfl (v := .sl b 0 vs.length vs.length) rfl rfl, ?_⟩
    refine ⟨fun hlt => ?_, fun hge => ?_⟩
    · obtain ⟨v, hv⟩ : ∃ v, vs[i]? = some v := ⟨vs[i]'(by omega), List.getElem?_eq_getElem _⟩
      obtain ⟨l, hl2⟩ : ∃ l, ls[i]? = some l := ⟨ls[i]'(by omega), List.getElem?_eq_getElem _⟩
      have hlb := hln l (List.mem_of_getElem? hl2)
      obtain ⟨p, hp1, hp2⟩ := idx_any hT (C := ctx.plus S) (ρ := fun o => match o with | .tmp 10 => some (.sl b 0 vs.length vs.length) | _ => some (iv i)) (x := .tmp 10) (i := .tmp 11) (t := 59) (e := 22) (ei := t22) (n := vs.length) (k := i) (ty59 hT) rfl (ty22 hT) rfl rfl rfl rfl (by omega)
      refine ⟨p, hp1, ?_⟩
      have hl3 : loadE (ctx.plus S) 22 p H = some v := by
        rw [hp2]
        simp only [loadE, ty22 hT, hb, partE, t22]
        simpa using hv
      refine ⟨v, hl3, ?_⟩
      refine ⟨_, len_any hT (ty22 hT) rfl (v := v) rfl (hvs i v l hv hl2), ?_⟩
      refine ⟨fun h5 => ?_, fun h5 => ?_⟩
      · have hf : (ls.all fun l => decide (l ≤ 5)) = false := List.all_eq_false.2 ⟨l, List.mem_of_getElem? hl2, by simp; omega⟩
        have hfin : AV.bool false = .bool (ls.all fun l => decide (l ≤ 5)) ∧ H = H := by rw [hf]; exact ⟨rfl, rfl⟩
        exact hfin
      · refine ⟨⟨by omega, by omega⟩, ?_⟩
        refine ⟨vs.length - (i + 1), by omega, i + 1, _, _, _, _, _, _, _, _, _, _, _, _, _, _, _, rfl, rfl, rfl, by omega, fun j l' h1 h2 => ?_⟩
        by_cases hji : j = i
        · subst hji
          rw [hl2] at h2
          cases h2
          omega
        · exact hj j l' (by omega) h2
    · have hf : (ls.all fun l => decide (l ≤ 5)) = true := List.all_eq_true.2 fun l hl => by
        obtain ⟨j, hj2⟩ := List.getElem?_of_mem hl
        have := (List.getElem?_eq_some_iff.1 hj2).1
        have := hj j l (by omega) hj2
        simp; omega
      have hfin : AV.bool true = .bool (ls.all fun l => decide (l ≤ 5)) ∧ H = H := by rw [hf]; exact ⟨rfl, rfl⟩
      exact hfin
end Go.PI

