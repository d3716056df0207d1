/- Own work of the verifier: PiRef5 PiRefB PiChk1 PiRed PiRoot. -/
import Derived.Test.YtgmhmahdmbdngaaGreatDoorGvAU
import Derived.Test.YtgmhmahdmbdngaaGreatDoorGvAT
set_option linter.all false
set_option linter.deprecated false
open Go.Proofs
namespace Go.PI
open IM
set_option maxRecDepth 10000
set_option maxHeartbeats 4000000
variable (S : FuncId -> Option (List AV -> Heap -> Option (AV × Heap)))
theorem val_take_snoc {us : List Int} {i : Nat} {e : Int} (h : us[i]? = some e) : val (us.take (i + 1)) = val (us.take i) + pw i * e := by
 have hl := (List.getElem?_eq_some_iff.1 h).1
 rw [take_snoc h, val_snoc, List.length_take, Nat.min_eq_left (by omega)]
theorem sml_val {us : List Int} (h : Sml us) : -pw us.length < val us /\ val us < pw us.length := by
 induction us with
 | nil => decide
 | cons x xs ih =>
  have h1 := h x (by simp)
  have h2 := ih fun y hy => h y (by simp [hy])
  simp only [val, List.length_cons, pw]
  omega
theorem abs_mul_lt {a b p q : Int} (ha : -p < a /\ a < p) (hb : -q < b /\ b < q) : -(p * q) < a * b /\ a * b < p * q := by
 have h := mul_bd (a := a) (b := b) (m := p - 1) (n := q) (by omega) (by omega)
 have e : (p - 1) * q = p * q - q := by rw [Int.sub_mul]; omega
 rw [e] at h
 omega
theorem rmul_run (hR : OldR S) {H : Heap} {x y : AV} {xs ys : List Int} {X Y : Int} (hn : H.n + 20000 < lim) (hx : SV H x xs X) (hy : SV H y ys Y) (hxy : (digits X).length + (digits Y).length <= 20) :
  Cl (ctx.plus S) 32 [x, y] H fun r H' => Mine H H.n r (digits (X * Y)) H' /\ H'.n <= H.n + 10000 := by
 refine cl_of hR.h32 fn32 ?_
 have hT : (ctx.plus S).ty = tget := rfl
 have lx := hx.len
 have ly := hy.len
 refine (rnormal_run S hR.h25 hR.h110 hR.h111 hR.h112 (by omega) hx.sl (by omega) hx.in64).mono ?_
 rw [hx.val]
 rintro a H1 ⟨hM1, hn1⟩
 have k1 := hM1.kp (c := 120) (by omega)
 have k1m := k1.m
 have k1n := k1.n
 refine (rnormal_run S hR.h25 hR.h110 hR.h111 hR.h112 (H := H1) (by omega) (hy.sl.kp k1) (by omega) hy.in64).mono ?_
 rw [hy.val]
 rintro b H2 ⟨hM2, hn2⟩
 have k2 := hM2.kp (c := 120) (by omega)
 have k2m := k2.m
 have k2n := k2.n
 have ha : Sl H2 a (digits X) := hM1.toSl.kp k2
 have hb : Sl H2 b (digits Y) := hM2.toSl
 have su := (nrm_digits X).sml'
 have sw := (nrm_digits Y).sml'
 have vu := val_digits X
 have vw := val_digits Y
 obtain ⟨us, hus⟩ : ∃ us, digits X = us := ⟨_, rfl⟩
 obtain ⟨ws, hws⟩ : ∃ ws, digits Y = ws := ⟨_, rfl⟩
 rw [hus] at ha su vu hxy
 rw [hws] at hb sw vw hxy
 have bw := sml_val sw
 rw [vw] at bw
 have hP : pw us.length * pw ws.length <= pw 20 := by rw [← pw_add]; exact pw_mono hxy
 have bnd : ∀ i : Nat, i <= us.length -> -pw 20 < val (us.take i) * Y /\ val (us.take i) * Y < pw 20 := fun i hi => by
  have s1 := sml_val (us := us.take i) (fun z hz => su z (List.mem_of_mem_take hz))
  rw [List.length_take, Nat.min_eq_left hi] at s1
  have h := abs_mul_lt s1 bw
  have : pw i * pw ws.length <= pw us.length * pw ws.length := Int.mul_le_mul_of_nonneg_right (pw_mono hi) (by have := pw_pos ws.length; omega)
  omega
 have fin : ∀ (o : AV) (H' : Heap), Sl H' o (digits (val (us.take us.length) * Y)) -> H2.n <= H'.n -> (∀ A, A < H2.n -> H'.get A = H2.get A) -> H'.n <= H2.n + 470 * us.length -> Cl (ctx.plus S) 25 [o] H' fun r H3 => Mine H H.n r (digits (X * Y)) H3 /\ H3.n <= H.n + 10000 := by
  intro o H' ho hn1' hk' hn2'
  rw [List.take_length, vu] at ho
  have hb2 := bnd us.length (Nat.le_refl _)
  rw [List.take_length, vu] at hb2
  have hsv := SV.of ho hb2
  have hln := hsv.len
  refine (rnormal_run S hR.h25 hR.h110 hR.h111 hR.h112 (H := H') (by omega) ho (by omega) hsv.in64).mono ?_
  rw [val_digits]
  rintro r H3 ⟨h1, h2⟩
  exact ⟨h1.up (by omega) (fun A hA => by rw [hk' A (by omega), k2.get A (by omega), k1.get A hA]), by omega⟩
 refine ⟨fun m s => ∃ (i : Nat) (n : Int) (o : AV) (H' : Heap) (T : List AV),
  s = ⟨T, H', []⟩ /\ T.length = 44 /\ T.getD 0 undefA = a /\ T.getD 1 undefA = b /\ T.getD 5 undefA = o /\ T.getD 6 undefA = iv n /\ m = us.length - i /\ n = i /\ i <= us.length /\ Sl H' o (digits (val (us.take i) * Y)) /\ H2.n <= H'.n /\ (∀ A, A < H2.n -> H'.get A = H2.get A) /\ H'.n <= H2.n + 470 * i, ⟨us.length, ?_⟩, ?_⟩
 ·exact ⟨0, _, .nils, H2, _, rfl, rfl, rfl, rfl, rfl, rfl, rfl, rfl, Nat.zero_le _, by simp [val]; rfl, Nat.le_refl _, fun _ _ => rfl, by omega⟩
 ·rintro m s ⟨i, n, o, H', T, rfl, hTl, h0t, h1t, h5t, h6t, rfl, rfl, hi, ho, hn3, hk3, hn4⟩
  obtain ⟨J, rfl⟩ : ∃ J : Nat -> AV, T = [a, b, J 2, J 3, J 4, o, iv i, J 7, J 8, J 9, J 10, J 11, J 12, J 13, J 14, J 15, J 16, J 17, J 18, J 19, J 20, J 21, J 22, J 23, J 24, J 25, J 26, J 27, J 28, J 29, J 30, J 31, J 32, J 33, J 34, J 35, J 36, J 37, J 38, J 39, J 40, J 41, J 42, J 43] := ⟨fun i => T.getD i undefA, (ex44 T hTl).trans (by rw [h0t, h1t, h5t, h6t])⟩
  clear hTl h0t h1t h5t h6t
  have ha' : Sl H' a us := ha.mono hk3
  have hb' : Sl H' b ws := hb.mono hk3
  refine ⟨_, len_sl hT (v := a) rfl ha', ?_⟩
  refine ⟨fun hlt => ?_, fun hge => ?_⟩
  ·obtain ⟨e, he⟩ : ∃ e, us[i]? = some e := ⟨us[i]'(by omega), List.getElem?_eq_getElem _⟩
   have heB := su e (List.mem_of_getElem? he)
   refine ⟨by omega, ⟨by omega, by omega, by omega⟩, ?_⟩
   rw [show ((i : Int)).toNat = i by omega, show (List.replicate i t3.zero.cells).flatten = ints (List.replicate i 0) from ints_zeros _]
   have hp := Heap.get_push (H := H') (b := .cells true 3 (ints (List.replicate i 0))) (by omega)
   have hpn : (H'.push (.cells true 3 (ints (List.replicate i 0)))).n = H'.n + 1 := rfl
   generalize H'.push (.cells true 3 (ints (List.replicate i 0))) = Hp at hp hpn ⊢
   have hkp : ∀ A, A < H'.n -> Hp.get A = H'.get A := fun A hA => by rw [hp, if_neg (by omega)]
   have hM0 : Mine H' H'.n (.sl H'.n 0 i i) (List.replicate i 0) Hp := by
    have := Mine.fresh_refl (H := H') (b := H'.n) (zs := List.replicate i 0) (v := .sl H'.n 0 i i) (l := i) (H1 := Hp) (by omega) hkp ⟨by rw [hp, if_pos rfl], by simp, .inl ⟨i, rfl, Nat.le_refl _, by simp⟩⟩ (Nat.le_refl _)
    rwa [List.take_of_length_le (by simp)] at this
   refine ⟨fun m s => ∃ (k : Nat) (n : Int) (r : AV) (H3 : Heap) (T : List AV),
    s = ⟨T, H3, []⟩ /\ T.length = 44 /\ T.getD 0 undefA = a /\ T.getD 1 undefA = b /\ T.getD 5 undefA = o /\ T.getD 6 undefA = iv i /\ T.getD 7 undefA = r /\ T.getD 8 undefA = iv n /\ m = ws.length - k /\ n = k /\ k <= ws.length /\ Mine H' H'.n r (List.replicate i 0 ++ mulL e (ws.take k)) H3 /\ H3.n <= H'.n + 1 + 2 * k, ⟨ws.length, ?_⟩, ?_⟩
   ·exact ⟨0, _, _, Hp, _, rfl, rfl, rfl, rfl, rfl, rfl, rfl, rfl, rfl, rfl, Nat.zero_le _, by simpa [mulL] using hM0, by omega⟩
   ·rintro m s ⟨k, n, r, H3, T, rfl, hTl, h0t, h1t, h5t, h6t, h7t, h8t, rfl, rfl, hk, hM3, hn5⟩
    obtain ⟨J', rfl⟩ : ∃ J : Nat -> AV, T = [a, b, J 2, J 3, J 4, o, iv i, r, iv k, J 9, J 10, J 11, J 12, J 13, J 14, J 15, J 16, J 17, J 18, J 19, J 20, J 21, J 22, J 23, J 24, J 25, J 26, J 27, J 28, J 29, J 30, J 31, J 32, J 33, J 34, J 35, J 36, J 37, J 38, J 39, J 40, J 41, J 42, J 43] := ⟨fun i => T.getD i undefA, (ex44 T hTl).trans (by rw [h0t, h1t, h5t, h6t, h7t, h8t])⟩
    clear hTl h0t h1t h5t h6t h7t h8t
    have hk4 : ∀ A, A < H'.n -> H3.get A = H'.get A := fun A hA => hM3.keep A hA (by omega)
    have hn6 := hM3.n
    have ha3 : Sl H3 a us := ha'.mono hk4
    have hb3 : Sl H3 b ws := hb'.mono hk4
    refine ⟨_, len_sl hT (v := b) rfl hb3, ?_⟩
    refine ⟨fun hlt2 => ?_, fun hge2 => ?_⟩
    ·obtain ⟨f, hf⟩ : ∃ e, ws[k]? = some e := ⟨ws[k]'(by omega), List.getElem?_eq_getElem _⟩
     have hfB := sw f (List.mem_of_getElem? hf)
     have hef := mul_bd (a := e) (b := f) (m := 100000000) (n := 100000000) (by omega) (by omega)
     obtain ⟨bx, ox, hbx, hax⟩ := ha3.addr (by intro h; subst h; simp at he)
     obtain ⟨b2, o2, hb2, ha2⟩ := hb3.addr (by intro h; subst h; simp at hf)
     have lx : loadE (ctx.plus S) 3 (addr a i) H3 = some (iv e) := load_sl hT ha3 he
     have ly : loadE (ctx.plus S) 3 (addr b k) H3 = some (iv f) := load_sl hT hb3 hf
     have lx' : loadE (ctx.plus S) 3 (.ptr bx (ox + i)) H3 = some (iv e) := by rw [← hax]; exact lx
     have ly' : loadE (ctx.plus S) 3 (.ptr b2 (o2 + k)) H3 = some (iv f) := by rw [← ha2]; exact ly
     have si : ∀ n : Int, (iv n).same (iv n) = true := fun n => by simp [AV.same, AV.sames]
     refine ⟨_, idx_sl hT (v := a) (n := (i : Int)) (k := i) rfl rfl ha3 rfl (by omega), ?_⟩
     refine ⟨_, lx, ?_⟩
     refine ⟨_, idx_sl hT (v := b) (n := (k : Int)) (k := k) rfl rfl hb3 rfl (by omega), ?_⟩
     refine ⟨_, ly, ?_⟩
     refine ⟨⟨by omega, by omega⟩, ?_⟩
     refine ⟨by omega, _, _, rfl, ?_⟩
     obtain ⟨r2, H4, hap, hM4, hn7⟩ := append_mine hT (C := ctx.plus S) (e := e * f) (by omega) (by simp [mulL]; omega) hM3
     have hge4 := appendE_ge hap
     refine ⟨r2, H4, hap, ?_⟩
     refine ⟨draw_of4 [[], [], [], [], [true, false, false, false, false, false, false, false, false, false, false, false, false, false], [], [], [], [true, false, false, false, false, false, false, false, false, false, false, false, false, false], [], [], [], []] (by kernel_rfl) rfl ?_ ?_ ?_, ?_⟩
     ·exact ⟨trivial, trivial, trivial, trivial, ⟨_, _, _, congrArg some (hax _), lx', si _, rfl, trivial⟩, trivial, trivial, trivial, ⟨_, _, _, congrArg some (ha2 _), ly', si _, rfl, trivial⟩, trivial, trivial, trivial, trivial, trivial⟩
     ·exact ⟨trivial, trivial, trivial, trivial, trivial, trivial, trivial, trivial, trivial, trivial, ⟨_, _, _, rfl⟩, trivial, trivial, trivial⟩
     ·repeat' (first | exact trivial | refine ⟨Nat.le_refl _, ?_⟩ | refine ⟨Nat.le_succ _, ?_⟩ | refine ⟨hge4, ?_⟩)
     refine ⟨⟨by omega, by omega⟩, ?_⟩
     refine ⟨ws.length - (k + 1), by omega, k + 1, _, r2, H4, _, rfl, rfl, rfl, rfl, rfl, rfl, rfl, rfl, rfl, rfl, by omega, ?_, by omega⟩
     rw [take_snoc hf, mulL_snoc, ← List.append_assoc]
     exact hM4
    ·have hkl : k = ws.length := by omega
     subst hkl
     rw [List.take_length] at hM3
     have hrow : val (List.replicate i 0 ++ mulL e ws) = pw i * (e * Y) := by
      rw [val_append, val_zeros, mulL_val, vw, List.length_replicate]; omega
     have hrb : -pw 20 < pw i * (e * Y) /\ pw i * (e * Y) < pw 20 := by
      have h1 := abs_mul_lt (a := e) (b := Y) (p := 100000000) (q := pw ws.length) heB bw
      have h2 := mul_bd (a := pw i) (b := e * Y) (m := pw i) (n := 100000000 * pw ws.length - 1) (by have := pw_pos i; omega) (by omega)
      have e1 : pw i * (100000000 * pw ws.length - 1) = pw (i + 1) * pw ws.length - pw i := by rw [pw_succ]; grind
      rw [e1] at h2
      have h3 : pw (i + 1) * pw ws.length <= pw us.length * pw ws.length := Int.mul_le_mul_of_nonneg_right (pw_mono (by omega)) (by have := pw_pos ws.length; omega)
      have := pw_pos i
      omega
     have svr : SV H3 r (List.replicate i 0 ++ mulL e ws) (pw i * (e * Y)) := by
      refine ⟨hM3.sl, fun z hz => ?_, by simp [mulL]; omega, hrow, len_of hrb⟩
      rcases List.mem_append.1 hz with h | h
      ·have := (List.mem_replicate.1 h).2
       unfold In64; omega
      ·obtain ⟨f, hf, rfl⟩ := List.mem_map.1 h
       have hfB := sw f hf
       have := mul_bd (a := e) (b := f) (m := 100000000) (n := 100000000) (by omega) (by omega)
       unfold In64; omega
     have svo : SV H3 o (digits (val (us.take i) * Y)) (val (us.take i) * Y) := SV.of (ho.mono hk4) (bnd i hi)
     refine (radd_run S hR (H := H3) (by omega) svo svr).mono ?_
     rintro o2 H4 ⟨hM5, hn8⟩
     refine ⟨⟨by omega, by omega⟩, ?_⟩
     refine ⟨us.length - (i + 1), by omega, i + 1, _, o2, H4, _, rfl, rfl, rfl, rfl, rfl, rfl, rfl, rfl, by omega, ?_, by have := hM5.n; omega, fun A hA => by rw [hM5.keep A (by omega) (by omega), hk4 A (by omega)]; exact hk3 A hA, by omega⟩
     rw [val_take_snoc he, show (val (us.take i) + pw i * e) * Y = val (us.take i) * Y + pw i * (e * Y) by rw [Int.add_mul, Int.mul_assoc]]
     exact hM5.toSl
  ·have hil : i = us.length := by omega
   subst hil
   exact fin o H' ho hn3 hk3 hn4
end Go.PI

open Go.Proofs
namespace Go.PI
open IM
set_option maxRecDepth 10000
set_option maxHeartbeats 4000000
variable (S : FuncId -> Option (List AV -> Heap -> Option (AV × Heap)))
structure SVB (H : Heap) (v : AV) (xs : List Int) (X : Int) : Prop where
 sl : Sl H v xs
 in64 : ∀ e ∈ xs, In64 e
 len : xs.length <= 200
 val : val xs = X
 dl : (digits X).length <= 200
theorem SVB.kp {H H' : Heap} {v : AV} {xs : List Int} {X : Int} {c : Nat} (h : SVB H v xs X) (k : Kp H H' c) : SVB H' v xs X := ⟨h.sl.kp k, h.in64, h.len, h.val, h.dl⟩
theorem SVB.of {H : Heap} {v : AV} {X : Int} (h : Sl H v (digits X)) (hb : -pw 200 < X /\ X < pw 200) : SVB H v (digits X) X :=
 ⟨h, fun e he => by have := (nrm_digits X).sml' e he; unfold In64; omega, len_of hb, val_digits X, len_of hb⟩
theorem radd_runB (hR : OldR S) {H : Heap} {x y : AV} {xs ys : List Int} {X Y : Int} (hn : H.n + 100000 < lim) (hx : SVB H x xs X) (hy : SVB H y ys Y) :
  Cl (ctx.plus S) 28 [x, y] H fun r H' => Mine H H.n r (digits (X + Y)) H' /\ H'.n <= H.n + 3000 := by
 refine cl_of hR.h28 fn28 ?_
 have hT : (ctx.plus S).ty = tget := rfl
 have lx := hx.len
 have ly := hy.len
 have dx := hx.dl
 have dy := hy.dl
 refine (rnormal_run S hR.h25 hR.h110 hR.h111 hR.h112 (by omega) hx.sl (by omega) hx.in64).mono ?_
 rw [hx.val]
 rintro a H1 ⟨hM1, hn1⟩
 have k1 := hM1.kp (c := 900) (by omega)
 have k1m := k1.m
 refine (rnormal_run S hR.h25 hR.h110 hR.h111 hR.h112 (H := H1) (by omega) (hy.sl.kp k1) (by omega) hy.in64).mono ?_
 rw [hy.val]
 rintro b H2 ⟨hM2, hn2⟩
 have k2 := hM2.kp (c := 900) (by omega)
 have k2m := k2.m
 have k1n := k1.n
 have k2n := k2.n
 have ha : Sl H2 a (digits X) := hM1.toSl.kp k2
 have hb : Sl H2 b (digits Y) := hM2.toSl
 obtain ⟨us, hus⟩ : ∃ us, digits X = us := ⟨_, rfl⟩
 obtain ⟨ws, hws⟩ : ∃ ws, digits Y = ws := ⟨_, rfl⟩
 have su := (nrm_digits X).sml'
 have sw := (nrm_digits Y).sml'
 have vu := val_digits X
 have vw := val_digits Y
 rw [hus] at ha su vu dx
 rw [hws] at hb sw vw dy
 have hsl := sumL_length us ws
 have hsb : ∀ e ∈ sumL us ws, -200000000 <= e /\ e <= 200000000 := by
  intro e he
  obtain ⟨i, hi⟩ := List.getElem?_of_mem he
  have hlt := (List.getElem?_eq_some_iff.1 hi).1
  rw [sumL_get us ws i (by omega)] at hi
  have g1 : -100000000 < us.getD i 0 /\ us.getD i 0 < 100000000 := by
   rw [List.getD_eq_getElem?_getD]
   cases h : us[i]? with
   | none => simp
   | some z => simpa using su z (List.mem_of_getElem? h)
  have g2 : -100000000 < ws.getD i 0 /\ ws.getD i 0 < 100000000 := by
   rw [List.getD_eq_getElem?_getD]
   cases h : ws[i]? with
   | none => simp
   | some z => simpa using sw z (List.mem_of_getElem? h)
  cases hi
  omega
 refine ⟨fun m s => ∃ (i : Nat) (n : Int) (o : AV) (H' : Heap) (T : List AV),
  s = ⟨T, H', []⟩ /\ T.length = 48 /\ T.getD 0 undefA = a /\ T.getD 1 undefA = b /\ T.getD 5 undefA = o /\ T.getD 6 undefA = iv n /\ m = max us.length ws.length - i /\ n = i /\ i <= max us.length ws.length /\ MN H2 o ((sumL us ws).take i) H' /\ H'.n <= H2.n + 2 * i, ⟨max us.length ws.length, ?_⟩, ?_⟩
 ·exact ⟨0, _, .nils, H2, _, rfl, rfl, rfl, rfl, rfl, rfl, rfl, rfl, Nat.zero_le _, .inl ⟨rfl, rfl, Nat.le_refl _, fun _ _ => rfl⟩, by omega⟩
 ·rintro m s ⟨i, n, o, H', T, rfl, hTl, h0t, h1t, h5t, h6t, rfl, rfl, hi, hM, hn'⟩
  obtain ⟨J, rfl⟩ : ∃ J : Nat -> AV, T = [a, b, J 2, J 3, J 4, o, iv i, J 7, J 8, J 9, J 10, J 11, J 12, J 13, J 14, J 15, J 16, J 17, J 18, J 19, J 20, J 21, J 22, J 23, J 24, J 25, J 26, J 27, J 28, J 29, J 30, J 31, J 32, J 33, J 34, J 35, J 36, J 37, J 38, J 39, J 40, J 41, J 42, J 43, J 44, J 45, J 46, J 47] := ⟨fun i => T.getD i undefA, (ex48 T hTl).trans (by rw [h0t, h1t, h5t, h6t])⟩
  clear hTl h0t h1t h5t h6t
  have ha' : Sl H' a us := ha.mono hM.keep
  have hb' : Sl H' b ws := hb.mono hM.keep
  have step : ∀ e : Int, e = us.getD i 0 + ws.getD i 0 -> i < max us.length ws.length -> ∃ r H3, appendE (ctx.plus S) [22, 22] o (.sl H'.n 0 1 1) (H'.push (.cells true 3 [iv e])) = some (r, H3) /\ MN H2 r ((sumL us ws).take (i + 1)) H3 /\ H3.n <= H2.n + 2 * (i + 1) := by
   intro e he hlt
   obtain ⟨r, H3, h1, h2, h3⟩ := append_mn hT (C := ctx.plus S) (e := e) (by omega) (by simp; omega) hM
   refine ⟨r, H3, h1, .inr ?_, by omega⟩
   have hg := sumL_get us ws i hlt
   rw [take_snoc hg, ← he]
   exact h2
  have gd : ∀ {zs : List Int} {j : Nat} {e : Int}, zs[j]? = some e -> zs.getD j 0 = e := fun h => by rw [List.getD_eq_getElem?_getD, h]; rfl
  have gn : ∀ {zs : List Int} {j : Nat}, zs.length <= j -> zs.getD j 0 = 0 := fun h => by rw [List.getD_eq_getElem?_getD, List.getElem?_eq_none h]; rfl
  have done : i = max us.length ws.length -> ∀ r H3, Mine H' H'.n r (digits (val ((sumL us ws).take i))) H3 /\ H3.n <= H'.n + 4 * ((sumL us ws).take i).length + 40 -> Mine H H.n r (digits (X + Y)) H3 /\ H3.n <= H.n + 3000 := by
   rintro he r H3 ⟨h1, h2⟩
   rw [List.take_of_length_le (by omega), sumL_val, vu, vw] at h1
   have hl2 : ((sumL us ws).take i).length <= 200 := by simp; omega
   refine ⟨h1.up (by have := hM.n; omega) (fun A hA => ?_), by omega⟩
   rw [hM.keep A (by omega), k2.get A (by omega), k1.get A hA]
  have fin : i = max us.length ws.length -> Cl (ctx.plus S) 25 [o] H' fun r H3 => Mine H H.n r (digits (X + Y)) H3 /\ H3.n <= H.n + 3000 := fun he =>
   (rnormal_run S hR.h25 hR.h110 hR.h111 hR.h112 (H := H') (by simp; omega) hM.rv.sl (by simp; omega) (fun e he => by have := hsb e (List.mem_of_mem_take he); unfold In64; omega)).mono (done he)
  refine ⟨_, len_sl hT (v := a) rfl ha', ?_⟩
  refine ⟨fun h1 => ?_, fun h1 => ?_⟩
  ·obtain ⟨e, he⟩ : ∃ e, us[i]? = some e := ⟨us[i]'(by omega), List.getElem?_eq_getElem _⟩
   have heB := su e (List.mem_of_getElem? he)
   refine ⟨_, len_sl hT (v := a) rfl ha', ?_⟩
   refine ⟨fun _ => ?_, fun h => absurd h1 (by omega)⟩
   refine ⟨_, idx_sl hT (v := a) (n := (i : Int)) (k := i) rfl rfl ha' rfl (by omega), ?_⟩
   refine ⟨_, load_sl hT ha' he, ?_⟩
   refine ⟨_, len_sl hT (v := b) rfl hb', ?_⟩
   refine ⟨fun h2 => ?_, fun h2 => ?_⟩
   ·obtain ⟨f, hf⟩ : ∃ e, ws[i]? = some e := ⟨ws[i]'(by omega), List.getElem?_eq_getElem _⟩
    have hfB := sw f (List.mem_of_getElem? hf)
    refine ⟨_, idx_sl hT (v := b) (n := (i : Int)) (k := i) rfl rfl hb' rfl (by omega), ?_⟩
    refine ⟨_, load_sl hT hb' hf, ?_⟩
    refine ⟨⟨by omega, by omega⟩, ?_⟩
    refine ⟨by omega, _, _, rfl, ?_⟩
    obtain ⟨r, H3, q1, q2, q3⟩ := step (e + f) (by rw [gd he, gd hf]) (by omega)
    refine ⟨r, H3, q1, ?_⟩
    refine ⟨⟨by omega, by omega⟩, ?_⟩
    exact ⟨max us.length ws.length - (i + 1), by omega, i + 1, _, r, H3, _, rfl, rfl, rfl, rfl, rfl, rfl, rfl, rfl, by omega, q2, q3⟩
   ·refine ⟨by omega, _, _, rfl, ?_⟩
    obtain ⟨r, H3, q1, q2, q3⟩ := step e (by rw [gd he, gn (by omega)]; omega) (by omega)
    refine ⟨r, H3, q1, ?_⟩
    refine ⟨⟨by omega, by omega⟩, ?_⟩
    exact ⟨max us.length ws.length - (i + 1), by omega, i + 1, _, r, H3, _, rfl, rfl, rfl, rfl, rfl, rfl, rfl, rfl, by omega, q2, q3⟩
  ·refine ⟨_, len_sl hT (v := b) rfl hb', ?_⟩
   refine ⟨fun h2 => ?_, fun h2 => ?_⟩
   ·obtain ⟨f, hf⟩ : ∃ e, ws[i]? = some e := ⟨ws[i]'(by omega), List.getElem?_eq_getElem _⟩
    have hfB := sw f (List.mem_of_getElem? hf)
    refine ⟨_, len_sl hT (v := a) rfl ha', ?_⟩
    refine ⟨fun h => absurd h (by omega), fun _ => ?_⟩
    refine ⟨_, len_sl hT (v := b) rfl hb', ?_⟩
    refine ⟨fun _ => ?_, fun h => absurd h2 (by omega)⟩
    refine ⟨_, idx_sl hT (v := b) (n := (i : Int)) (k := i) rfl rfl hb' rfl (by omega), ?_⟩
    refine ⟨_, load_sl hT hb' hf, ?_⟩
    refine ⟨⟨by omega, by omega⟩, ?_⟩
    refine ⟨by omega, _, _, rfl, ?_⟩
    obtain ⟨r, H3, q1, q2, q3⟩ := step (0 + f) (by rw [gd hf, gn (by omega)]) (by omega)
    refine ⟨r, H3, q1, ?_⟩
    refine ⟨⟨by omega, by omega⟩, ?_⟩
    exact ⟨max us.length ws.length - (i + 1), by omega, i + 1, _, r, H3, _, rfl, rfl, rfl, rfl, rfl, rfl, rfl, rfl, by omega, q2, q3⟩
   ·exact fin (by omega)
theorem rneg_runB (hR : OldR S) {H : Heap} {x : AV} {xs : List Int} {X : Int} (hn : H.n + 100000 < lim) (hx : SVB H x xs X) :
  Cl (ctx.plus S) 115 [x] H fun r H' => Mine H H.n r (digits (-X)) H' /\ H'.n <= H.n + 900 := by
 refine cl_of hR.h115 fn115 ?_
 have lx := hx.len
 have dx := hx.dl
 refine (rnormal_run S hR.h25 hR.h110 hR.h111 hR.h112 (by omega) hx.sl (by omega) hx.in64).mono ?_
 rw [hx.val]
 rintro a H1 ⟨hM1, hn1⟩
 have hs := (nrm_digits X).sml'
 refine (signed_run S hR.h112 hR.h111 (H := H1) (β := true) (by omega) hM1.rv (by omega) (fun e he => by have := hs e he; unfold In64; omega)).mono ?_
 rintro r H2 ⟨h, hm⟩
 rw [if_pos rfl, trim_of_top (nrm_digits X).2] at h
 unfold negL at h
 rw [negd] at h
 exact ⟨h.up hM1.n (fun A hA => hM1.keep A hA (by omega)), by omega⟩
theorem rsub_runB (hR : OldR S) {H : Heap} {x y : AV} {xs ys : List Int} {X Y : Int} (hn : H.n + 200000 < lim) (hx : SVB H x xs X) (hy : SVB H y ys Y) :
  Cl (ctx.plus S) 30 [x, y] H fun r H' => Mine H H.n r (digits (X - Y)) H' /\ H'.n <= H.n + 4000 := by
 refine cl_of hR.h30 fn30 ?_
 refine (rneg_runB S hR (by omega) hy).mono ?_
 rintro b H1 ⟨hM1, hn1⟩
 have k1 := hM1.kp hn1
 have hl : (digits (-Y)).length <= 200 := by
  have h := negd Y
  have h2 := congrArg List.length h
  simp at h2
  have := hy.dl
  omega
 have hs := (nrm_digits (-Y)).sml'
 refine (radd_runB S hR (H := H1) (x := x) (y := b) (Y := -Y) (by omega) (hx.kp k1) ⟨hM1.toSl, fun e he => by have := hs e he; unfold In64; omega, hl, val_digits _, hl⟩).mono ?_
 rintro r H2 ⟨h, hm⟩
 rw [show X + -Y = X - Y by omega] at h
 exact ⟨h.up hM1.n (fun A hA => hM1.keep A hA (by omega)), by omega⟩
theorem rsign_runB (hR : OldR S) {H : Heap} {x : AV} {xs : List Int} {X : Int} (hn : H.n + 100000 < lim) (hx : Sl H x xs) (h64 : ∀ e ∈ xs, In64 e) (hl : xs.length <= 250) (hv : val xs = X) (hd : (digits X).length <= 250) :
  Cl (ctx.plus S) 117 [x] H fun r H' => r = iv (cmpI X 0) /\ Kp H H' 1100 := by
 refine cl_of hR.h117 fn117 ?_
 have hT : (ctx.plus S).ty = tget := rfl
 refine (rnormal_run S hR.h25 hR.h110 hR.h111 hR.h112 (by omega) hx (by omega) h64).mono ?_
 rw [hv]
 rintro a H1 ⟨hM1, hn1⟩
 have k1 := hM1.kp (c := 1100) (by omega)
 refine ⟨_, len_sl hT (v := a) rfl hM1.toSl, ?_⟩
 refine ⟨fun h0 => ?_, fun h0 => ?_⟩
 ·have hX : X = 0 := digits_nil.1 (List.eq_nil_of_length_eq_zero (by omega))
  have hfin : iv 0 = iv (cmpI X 0) /\ Kp H H1 1100 := ⟨by rw [hX]; rfl, k1⟩
  exact hfin
 ·have hX : X ≠ 0 := fun h => h0 (by rw [h]; rfl)
  refine (rnegative_run S hR.h122 hM1.toSl (by omega) (nrm_digits X)).mono ?_
  rw [val_digits]
  rintro _ _ ⟨rfl, rfl⟩
  by_cases hneg : X < 0
  ·rw [decide_eq_true hneg]
   have hfin : iv (-1) = iv (cmpI X 0) /\ Kp H H1 1100 := ⟨by unfold cmpI; rw [if_pos hneg], k1⟩
   exact hfin
  ·rw [decide_eq_false hneg]
   have hfin : iv 1 = iv (cmpI X 0) /\ Kp H H1 1100 := ⟨by unfold cmpI; rw [if_neg hneg, if_pos (by omega)], k1⟩
   exact hfin
theorem rmul_runB (hR : OldR S) {H : Heap} {x y : AV} {xs ys : List Int} {X Y : Int} (hn : H.n + 3000000 < lim) (hx : SVB H x xs X) (hy : SVB H y ys Y) (hxy : (digits X).length + (digits Y).length <= 200) :
  Cl (ctx.plus S) 32 [x, y] H fun r H' => Mine H H.n r (digits (X * Y)) H' /\ H'.n <= H.n + 1000000 := by
 refine cl_of hR.h32 fn32 ?_
 have hT : (ctx.plus S).ty = tget := rfl
 have lx := hx.len
 have ly := hy.len
 refine (rnormal_run S hR.h25 hR.h110 hR.h111 hR.h112 (by omega) hx.sl (by omega) hx.in64).mono ?_
 rw [hx.val]
 rintro a H1 ⟨hM1, hn1⟩
 have k1 := hM1.kp (c := 900) (by omega)
 have k1m := k1.m
 have k1n := k1.n
 refine (rnormal_run S hR.h25 hR.h110 hR.h111 hR.h112 (H := H1) (by omega) (hy.sl.kp k1) (by omega) hy.in64).mono ?_
 rw [hy.val]
 rintro b H2 ⟨hM2, hn2⟩
 have k2 := hM2.kp (c := 900) (by omega)
 have k2m := k2.m
 have k2n := k2.n
 have ha : Sl H2 a (digits X) := hM1.toSl.kp k2
 have hb : Sl H2 b (digits Y) := hM2.toSl
 have su := (nrm_digits X).sml'
 have sw := (nrm_digits Y).sml'
 have vu := val_digits X
 have vw := val_digits Y
 obtain ⟨us, hus⟩ : ∃ us, digits X = us := ⟨_, rfl⟩
 obtain ⟨ws, hws⟩ : ∃ ws, digits Y = ws := ⟨_, rfl⟩
 rw [hus] at ha su vu hxy
 rw [hws] at hb sw vw hxy
 have bw := sml_val sw
 rw [vw] at bw
 have hP : pw us.length * pw ws.length <= pw 200 := by rw [← pw_add]; exact pw_mono hxy
 have bnd : ∀ i : Nat, i <= us.length -> -pw 200 < val (us.take i) * Y /\ val (us.take i) * Y < pw 200 := fun i hi => by
  have s1 := sml_val (us := us.take i) (fun z hz => su z (List.mem_of_mem_take hz))
  rw [List.length_take, Nat.min_eq_left hi] at s1
  have h := abs_mul_lt s1 bw
  have : pw i * pw ws.length <= pw us.length * pw ws.length := Int.mul_le_mul_of_nonneg_right (pw_mono hi) (by have := pw_pos ws.length; omega)
  omega
 have fin : ∀ (o : AV) (H' : Heap), Sl H' o (digits (val (us.take us.length) * Y)) -> H2.n <= H'.n -> (∀ A, A < H2.n -> H'.get A = H2.get A) -> H'.n <= H2.n + 3500 * us.length -> Cl (ctx.plus S) 25 [o] H' fun r H3 => Mine H H.n r (digits (X * Y)) H3 /\ H3.n <= H.n + 1000000 := by
  intro o H' ho hn1' hk' hn2'
  rw [List.take_length, vu] at ho
  have hb2 := bnd us.length (Nat.le_refl _)
  rw [List.take_length, vu] at hb2
  have hsv := SVB.of ho hb2
  have hln := hsv.len
  refine (rnormal_run S hR.h25 hR.h110 hR.h111 hR.h112 (H := H') (by omega) ho (by omega) hsv.in64).mono ?_
  rw [val_digits]
  rintro r H3 ⟨h1, h2⟩
  exact ⟨h1.up (by omega) (fun A hA => by rw [hk' A (by omega), k2.get A (by omega), k1.get A hA]), by omega⟩
 refine ⟨fun m s => ∃ (i : Nat) (n : Int) (o : AV) (H' : Heap) (T : List AV),
  s = ⟨T, H', []⟩ /\ T.length = 44 /\ T.getD 0 undefA = a /\ T.getD 1 undefA = b /\ T.getD 5 undefA = o /\ T.getD 6 undefA = iv n /\ m = us.length - i /\ n = i /\ i <= us.length /\ Sl H' o (digits (val (us.take i) * Y)) /\ H2.n <= H'.n /\ (∀ A, A < H2.n -> H'.get A = H2.get A) /\ H'.n <= H2.n + 3500 * i, ⟨us.length, ?_⟩, ?_⟩
 ·exact ⟨0, _, .nils, H2, _, rfl, rfl, rfl, rfl, rfl, rfl, rfl, rfl, Nat.zero_le _, by simp [val]; rfl, Nat.le_refl _, fun _ _ => rfl, by omega⟩
 ·rintro m s ⟨i, n, o, H', T, rfl, hTl, h0t, h1t, h5t, h6t, rfl, rfl, hi, ho, hn3, hk3, hn4⟩
  obtain ⟨J, rfl⟩ : ∃ J : Nat -> AV, T = [a, b, J 2, J 3, J 4, o, iv i, J 7, J 8, J 9, J 10, J 11, J 12, J 13, J 14, J 15, J 16, J 17, J 18, J 19, J 20, J 21, J 22, J 23, J 24, J 25, J 26, J 27, J 28, J 29, J 30, J 31, J 32, J 33, J 34, J 35, J 36, J 37, J 38, J 39, J 40, J 41, J 42, J 43] := ⟨fun i => T.getD i undefA, (ex44 T hTl).trans (by rw [h0t, h1t, h5t, h6t])⟩
  clear hTl h0t h1t h5t h6t
  have ha' : Sl H' a us := ha.mono hk3
  have hb' : Sl H' b ws := hb.mono hk3
  refine ⟨_, len_sl hT (v := a) rfl ha', ?_⟩
  refine ⟨fun hlt => ?_, fun hge => ?_⟩
  ·obtain ⟨e, he⟩ : ∃ e, us[i]? = some e := ⟨us[i]'(by omega), List.getElem?_eq_getElem _⟩
   have heB := su e (List.mem_of_getElem? he)
   refine ⟨by omega, ⟨by omega, by omega, by omega⟩, ?_⟩
   rw [show ((i : Int)).toNat = i by omega, show (List.replicate i t3.zero.cells).flatten = ints (List.replicate i 0) from ints_zeros _]
   have hp := Heap.get_push (H := H') (b := .cells true 3 (ints (List.replicate i 0))) (by omega)
   have hpn : (H'.push (.cells true 3 (ints (List.replicate i 0)))).n = H'.n + 1 := rfl
   generalize H'.push (.cells true 3 (ints (List.replicate i 0))) = Hp at hp hpn ⊢
   have hkp : ∀ A, A < H'.n -> Hp.get A = H'.get A := fun A hA => by rw [hp, if_neg (by omega)]
   have hM0 : Mine H' H'.n (.sl H'.n 0 i i) (List.replicate i 0) Hp := by
    have := Mine.fresh_refl (H := H') (b := H'.n) (zs := List.replicate i 0) (v := .sl H'.n 0 i i) (l := i) (H1 := Hp) (by omega) hkp ⟨by rw [hp, if_pos rfl], by simp, .inl ⟨i, rfl, Nat.le_refl _, by simp⟩⟩ (Nat.le_refl _)
    rwa [List.take_of_length_le (by simp)] at this
   refine ⟨fun m s => ∃ (k : Nat) (n : Int) (r : AV) (H3 : Heap) (T : List AV),
    s = ⟨T, H3, []⟩ /\ T.length = 44 /\ T.getD 0 undefA = a /\ T.getD 1 undefA = b /\ T.getD 5 undefA = o /\ T.getD 6 undefA = iv i /\ T.getD 7 undefA = r /\ T.getD 8 undefA = iv n /\ m = ws.length - k /\ n = k /\ k <= ws.length /\ Mine H' H'.n r (List.replicate i 0 ++ mulL e (ws.take k)) H3 /\ H3.n <= H'.n + 1 + 2 * k, ⟨ws.length, ?_⟩, ?_⟩
   ·exact ⟨0, _, _, Hp, _, rfl, rfl, rfl, rfl, rfl, rfl, rfl, rfl, rfl, rfl, Nat.zero_le _, by simpa [mulL] using hM0, by omega⟩
   ·rintro m s ⟨k, n, r, H3, T, rfl, hTl, h0t, h1t, h5t, h6t, h7t, h8t, rfl, rfl, hk, hM3, hn5⟩
    obtain ⟨J', rfl⟩ : ∃ J : Nat -> AV, T = [a, b, J 2, J 3, J 4, o, iv i, r, iv k, J 9, J 10, J 11, J 12, J 13, J 14, J 15, J 16, J 17, J 18, J 19, J 20, J 21, J 22, J 23, J 24, J 25, J 26, J 27, J 28, J 29, J 30, J 31, J 32, J 33, J 34, J 35, J 36, J 37, J 38, J 39, J 40, J 41, J 42, J 43] := ⟨fun i => T.getD i undefA, (ex44 T hTl).trans (by rw [h0t, h1t, h5t, h6t, h7t, h8t])⟩
    clear hTl h0t h1t h5t h6t h7t h8t
    have hk4 : ∀ A, A < H'.n -> H3.get A = H'.get A := fun A hA => hM3.keep A hA (by omega)
    have hn6 := hM3.n
    have ha3 : Sl H3 a us := ha'.mono hk4
    have hb3 : Sl H3 b ws := hb'.mono hk4
    refine ⟨_, len_sl hT (v := b) rfl hb3, ?_⟩
    refine ⟨fun hlt2 => ?_, fun hge2 => ?_⟩
    ·obtain ⟨f, hf⟩ : ∃ e, ws[k]? = some e := ⟨ws[k]'(by omega), List.getElem?_eq_getElem _⟩
     have hfB := sw f (List.mem_of_getElem? hf)
     have hef := mul_bd (a := e) (b := f) (m := 100000000) (n := 100000000) (by omega) (by omega)
     obtain ⟨bx, ox, hbx, hax⟩ := ha3.addr (by intro h; subst h; simp at he)
     obtain ⟨b2, o2, hb2, ha2⟩ := hb3.addr (by intro h; subst h; simp at hf)
     have lx : loadE (ctx.plus S) 3 (addr a i) H3 = some (iv e) := load_sl hT ha3 he
     have ly : loadE (ctx.plus S) 3 (addr b k) H3 = some (iv f) := load_sl hT hb3 hf
     have lx' : loadE (ctx.plus S) 3 (.ptr bx (ox + i)) H3 = some (iv e) := by rw [← hax]; exact lx
     have ly' : loadE (ctx.plus S) 3 (.ptr b2 (o2 + k)) H3 = some (iv f) := by rw [← ha2]; exact ly
     have si : ∀ n : Int, (iv n).same (iv n) = true := fun n => by simp [AV.same, AV.sames]
     refine ⟨_, idx_sl hT (v := a) (n := (i : Int)) (k := i) rfl rfl ha3 rfl (by omega), ?_⟩
     refine ⟨_, lx, ?_⟩
     refine ⟨_, idx_sl hT (v := b) (n := (k : Int)) (k := k) rfl rfl hb3 rfl (by omega), ?_⟩
     refine ⟨_, ly, ?_⟩
     refine ⟨⟨by omega, by omega⟩, ?_⟩
     refine ⟨by omega, _, _, rfl, ?_⟩
     obtain ⟨r2, H4, hap, hM4, hn7⟩ := append_mine hT (C := ctx.plus S) (e := e * f) (by omega) (by simp [mulL]; omega) hM3
     have hge4 := appendE_ge hap
     refine ⟨r2, H4, hap, ?_⟩
     refine ⟨draw_of4 [[], [], [], [], [true, false, false, false, false, false, false, false, false, false, false, false, false, false], [], [], [], [true, false, false, false, false, false, false, false, false, false, false, false, false, false], [], [], [], []] (by kernel_rfl) rfl ?_ ?_ ?_, ?_⟩
     ·exact ⟨trivial, trivial, trivial, trivial, ⟨_, _, _, congrArg some (hax _), lx', si _, rfl, trivial⟩, trivial, trivial, trivial, ⟨_, _, _, congrArg some (ha2 _), ly', si _, rfl, trivial⟩, trivial, trivial, trivial, trivial, trivial⟩
     ·exact ⟨trivial, trivial, trivial, trivial, trivial, trivial, trivial, trivial, trivial, trivial, ⟨_, _, _, rfl⟩, trivial, trivial, trivial⟩
     ·repeat' (first | exact trivial | refine ⟨Nat.le_refl _, ?_⟩ | refine ⟨Nat.le_succ _, ?_⟩ | refine ⟨hge4, ?_⟩)
     refine ⟨⟨by omega, by omega⟩, ?_⟩
     refine ⟨ws.length - (k + 1), by omega, k + 1, _, r2, H4, _, rfl, rfl, rfl, rfl, rfl, rfl, rfl, rfl, rfl, rfl, by omega, ?_, by omega⟩
     rw [take_snoc hf, mulL_snoc, ← List.append_assoc]
     exact hM4
    ·have hkl : k = ws.length := by omega
     subst hkl
     rw [List.take_length] at hM3
     have hrow : val (List.replicate i 0 ++ mulL e ws) = pw i * (e * Y) := by
      rw [val_append, val_zeros, mulL_val, vw, List.length_replicate]; omega
     have hrb : -pw 200 < pw i * (e * Y) /\ pw i * (e * Y) < pw 200 := by
      have h1 := abs_mul_lt (a := e) (b := Y) (p := 100000000) (q := pw ws.length) heB bw
      have h2 := mul_bd (a := pw i) (b := e * Y) (m := pw i) (n := 100000000 * pw ws.length - 1) (by have := pw_pos i; omega) (by omega)
      have e1 : pw i * (100000000 * pw ws.length - 1) = pw (i + 1) * pw ws.length - pw i := by rw [pw_succ]; grind
      rw [e1] at h2
      have h3 : pw (i + 1) * pw ws.length <= pw us.length * pw ws.length := Int.mul_le_mul_of_nonneg_right (pw_mono (by omega)) (by have := pw_pos ws.length; omega)
      have := pw_pos i
      omega
     have svr : SVB H3 r (List.replicate i 0 ++ mulL e ws) (pw i * (e * Y)) := by
      refine ⟨hM3.sl, fun z hz => ?_, by simp [mulL]; omega, hrow, len_of hrb⟩
      rcases List.mem_append.1 hz with h | h
      ·have := (List.mem_replicate.1 h).2
       unfold In64; omega
      ·obtain ⟨f, hf, rfl⟩ := List.mem_map.1 h
       have hfB := sw f hf
       have := mul_bd (a := e) (b := f) (m := 100000000) (n := 100000000) (by omega) (by omega)
       unfold In64; omega
     have svo : SVB H3 o (digits (val (us.take i) * Y)) (val (us.take i) * Y) := SVB.of (ho.mono hk4) (bnd i hi)
     refine (radd_runB S hR (H := H3) (by omega) svo svr).mono ?_
     rintro o2 H4 ⟨hM5, hn8⟩
     refine ⟨⟨by omega, by omega⟩, ?_⟩
     refine ⟨us.length - (i + 1), by omega, i + 1, _, o2, H4, _, rfl, rfl, rfl, rfl, rfl, rfl, rfl, rfl, by omega, ?_, by have := hM5.n; omega, fun A hA => by rw [hM5.keep A (by omega) (by omega), hk4 A (by omega)]; exact hk3 A hA, by omega⟩
     rw [val_take_snoc he, show (val (us.take i) + pw i * e) * Y = val (us.take i) * Y + pw i * (e * Y) by rw [Int.add_mul, Int.mul_assoc]]
     exact hM5.toSl
  ·have hil : i = us.length := by omega
   subst hil
   exact fin o H' ho hn3 hk3 hn4
end Go.PI

open Go.Proofs
namespace Go.PI
open IM
theorem fn131 : ctx.fn 131 = some c131 := by kernel_rfl
theorem fn140 : ctx.fn 140 = some c140 := by kernel_rfl
theorem fn201 : ctx.fn 201 = some c201 := by kernel_rfl
set_option maxRecDepth 10000
set_option maxHeartbeats 4000000
variable (S : FuncId -> Option (List AV -> Heap -> Option (AV × Heap)))
theorem within_run (h : S 140 = none) {H : Heap} {n a b : Int} : Cl (ctx.plus S) 140 [iv n, iv a, iv b] H fun r H' => r = .bool (decide (a <= n /\ n <= b)) /\ H = H' := by
 refine cl_of h fn140 ?_
 have fin : ∀ β : Bool, (β = true ↔ (a <= n /\ n <= b)) -> AV.bool β = .bool (decide (a <= n /\ n <= b)) /\ H = H := fun β h => by
  refine ⟨?_, rfl⟩
  congr 1
  cases β with
  | true => exact (decide_eq_true (h.1 rfl)).symm
  | false => exact (decide_eq_false (fun hh => by have := h.2 hh; cases this)).symm
 refine ⟨fun h1 => ?_, fun h1 => ?_⟩
 ·refine ⟨fun h2 => ?_, fun h2 => ?_⟩
  ·exact fin true ⟨fun _ => ⟨h1, h2⟩, fun _ => rfl⟩
  ·exact fin false ⟨fun h => (by cases h), fun h => by omega⟩
 ·exact fin false ⟨fun h => (by cases h), fun h => by omega⟩
theorem rwithin_run (h : S 131 = none) {H : Heap} {n a b : Int} : Cl (ctx.plus S) 131 [iv n, iv a, iv b] H fun r H' => r = .bool (decide (a <= n /\ n <= b)) /\ H = H' := by
 refine cl_of h fn131 ?_
 have fin : ∀ β : Bool, (β = true ↔ (a <= n /\ n <= b)) -> AV.bool β = .bool (decide (a <= n /\ n <= b)) /\ H = H := fun β h => by
  refine ⟨?_, rfl⟩
  congr 1
  cases β with
  | true => exact (decide_eq_true (h.1 rfl)).symm
  | false => exact (decide_eq_false (fun hh => by have := h.2 hh; cases this)).symm
 refine ⟨fun h1 => ?_, fun h1 => ?_⟩
 ·refine ⟨fun h2 => ?_, fun h2 => ?_⟩
  ·exact fin true ⟨fun _ => ⟨h1, h2⟩, fun _ => rfl⟩
  ·exact fin false ⟨fun h => (by cases h), fun h => by omega⟩
 ·exact fin false ⟨fun h => (by cases h), fun h => by omega⟩
def pv : List Int -> Int -> Int
 | [], _ => 0
 | c :: cs, x => c + x * pv cs x
def Cf (ps : List Int) : Prop := ∀ c ∈ ps, -1000 <= c /\ c <= 1000
theorem pv_bound {x : Int} (hx : -1001 <= x /\ x <= 1001) : ∀ ps : List Int, Cf ps -> -(2000 ^ ps.length) <= pv ps x /\ pv ps x <= 2000 ^ ps.length
 | [], _ => by simp [pv]
 | [c], h => by
  have := h c (by simp)
  simp [pv]; omega
 | c :: d :: cs, h => by
  have h1 := h c (by simp)
  have h2 := pv_bound hx (d :: cs) fun y hy => h y (by simp [hy])
  have h3 := mul_bd (a := x) (b := pv (d :: cs) x) (m := 1001) (n := 2000 ^ (d :: cs).length) (by omega) h2
  have e1 : pv (c :: d :: cs) x = c + x * pv (d :: cs) x := rfl
  have e2 : (2000:Int) ^ (c :: d :: cs).length = 2000 * 2000 ^ (d :: cs).length := by rw [List.length_cons, Int.pow_succ]; omega
  have e3 : (2000:Int) <= 2000 ^ (d :: cs).length := by
   rw [List.length_cons, Int.pow_succ]
   have : (0:Int) < 2000 ^ cs.length := Int.pow_pos (by decide)
   omega
  rw [e1, e2]
  omega
theorem pv_drop {ps : List Int} {k : Nat} {c x : Int} (h : ps[k]? = some c) : pv (ps.drop k) x = c + x * pv (ps.drop (k + 1)) x := by rw [drop_of_get h]; rfl
theorem pv_small {x : Int} {ps : List Int} (hx : -1001 <= x /\ x <= 1001) (h : Cf ps) (hl : ps.length <= 5) (k : Nat) : -100000000000000000 <= pv (ps.drop k) x /\ pv (ps.drop k) x <= 100000000000000000 /\ -100000000000000000 <= x * pv (ps.drop (k + 1)) x /\ x * pv (ps.drop (k + 1)) x <= 100000000000000000 := by
 have mono : ∀ m n : Nat, m <= n -> (2000:Int) ^ m <= 2000 ^ n := fun m n hmn => by
  obtain ⟨d, rfl⟩ : ∃ d, n = m + d := ⟨n - m, by omega⟩
  rw [Int.pow_add]
  have h1 : (0:Int) < 2000 ^ m := Int.pow_pos (by decide)
  have h2 : (0:Int) < 2000 ^ d := Int.pow_pos (by decide)
  have := Int.mul_le_mul_of_nonneg_left (show (1:Int) <= 2000 ^ d by omega) (show (0:Int) <= 2000 ^ m by omega)
  omega
 have b1 := pv_bound hx (ps.drop k) (fun c hc => h c (List.mem_of_mem_drop hc))
 have b2 := pv_bound hx (ps.drop (k + 1)) (fun c hc => h c (List.mem_of_mem_drop hc))
 have m1 := mono (ps.drop k).length 5 (by simp; omega)
 have m2 := mono (ps.drop (k + 1)).length 4 (by simp; omega)
 have e5 : (2000:Int) ^ 5 = 32000000000000000 := by decide
 have e4 : (2000:Int) ^ 4 = 16000000000000 := by decide
 have := mul_bd (a := x) (b := pv (ps.drop (k + 1)) x) (m := 1001) (n := 16000000000000) (by omega) (by omega)
 omega
theorem horner_run (h201 : S 201 = none) (h182 : S 182 = none) (h228 : S 228 = none) {H : Heap} {p : AV} {ps : List Int} {x : Int} (hn : H.n + 20 < lim) (hp : Sl H p ps) (hc : Cf ps) (hl : ps.length <= 5) (hx : -1001 <= x /\ x <= 1001) :
  Cl (ctx.plus S) 201 [p, iv x] H fun r H' => r = iv (pv ps x) /\ Kp H H' 10 := by
 refine cl_of h201 fn201 ?_
 have hT : (ctx.plus S).ty = tget := rfl
 have hp0 := Heap.get_push (H := H) (b := .cells true 3 [iv x]) (by omega)
 have hpn0 : (H.push (.cells true 3 [iv x])).n = H.n + 1 := rfl
 have hp1 := Heap.get_push (H := H.push (.cells true 3 [iv x])) (b := .cells true 3 t3.zero.cells) (by omega)
 have hpn1 : ((H.push (.cells true 3 [iv x])).push (.cells true 3 t3.zero.cells)).n = H.n + 2 := rfl
 rw [hpn0] at hp1
 have hg1 : ((H.push (.cells true 3 [iv x])).push (.cells true 3 t3.zero.cells)).get (H.n + 1) = .cells true 3 [iv 0] := by rw [hp1, if_pos rfl]; rfl
 refine ⟨by omega, by show H.n + 1 < lim; omega, _, store_var (b := H.n + 1) hT hg1, ?_⟩
 let H1 : Heap := ((H.push (.cells true 3 [iv x])).push (.cells true 3 t3.zero.cells)).set (H.n + 1) (.cells true 3 [iv 0])
 have hU : Upd ((H.push (.cells true 3 [iv x])).push (.cells true 3 t3.zero.cells)) (H.n + 1) (.cells true 3 [iv 0]) H1 := upd_set (by omega) (by omega)
 have hn1 : H1.n = H.n + 2 := hU.n
 have c0 : H1.get H.n = .cells true 3 [iv x] := by rw [hU.other _ (by omega), hp1, if_neg (by omega), hp0, if_pos rfl]
 have kk : ∀ A, A < H.n -> H1.get A = H.get A := fun A hA => by rw [hU.other A (by omega), hp1, if_neg (by omega), hp0, if_neg (by omega)]
 refine (backward_run S h182 (H := H1) (v := p) (by omega)).mono ?_
 rintro _ _ ⟨rfl, rfl⟩
 have hp2 := Heap.get_push (H := H1) (b := .cells true 22 p.cells) (by omega)
 have hpn2 : (H1.push (.cells true 22 p.cells)).n = H.n + 3 := by show H1.n + 1 = _; omega
 have e1 : H1.n = H.n + 2 := hn1
 rw [hn1] at hp2
 let H2 : Heap := H1.push (.cells true 22 p.cells)
 refine range_back S h228 (H1 := H2) (b := H.n + 2) (v := p) (xs := ps) (Nat.lt_of_le_of_lt (Nat.le_of_eq (congrArg (· + 2) hpn2)) (by omega)) (by show some (AV.fn 228 [] [.ptr H1.n 0]) = _; rw [hn1]) (by omega)
  (fun k H' => (∀ A, A < H.n -> H'.get A = H.get A) /\ H'.get H.n = .cells true 3 [iv x] /\ H'.get (H.n + 1) = .cells true 3 [iv (pv (ps.drop k) x)] /\ H'.get (H.n + 2) = .cells true 22 [p] /\ H'.get (H.n + 3) = .dfr /\ H'.n = H.n + 5) ?_ ?_ ?_ ?_ ?_
 ·rintro k H' ⟨a1, a2, a3, a4, a5, a6⟩
  have : H2.n = H.n + 3 := hpn2
  exact ⟨load_slv hT a4, hp.mono a1, by omega, by omega⟩
 ·rintro k H' b H3 ⟨a1, a2, a3, a4, a5, a6⟩ hV
  have h2n : H2.n = H.n + 3 := hpn2
  have := hV.n
  exact ⟨fun A hA => by rw [hV.other A (by omega)]; exact a1 A hA, by rw [hV.other _ (by omega)]; exact a2, by rw [hV.other _ (by omega)]; exact a3, by rw [hV.other _ (by omega)]; exact a4, by rw [hV.other _ (by omega)]; exact a5, by omega⟩
 ·intro H' b1 b2 b3
  have h2n : H2.n = H.n + 3 := hpn2
  refine ⟨fun A hA => by rw [b2 A (by omega), hp2, if_neg (by omega)]; exact kk A hA, ?_, ?_, ?_, by rw [← h2n]; exact b3, by omega⟩
  ·rw [b2 _ (by omega), hp2, if_neg (by omega)]; exact c0
  ·rw [b2 _ (by omega), hp2, if_neg (by omega), List.drop_length]; exact hU.at_
  ·rw [b2 _ (by omega), hp2, if_pos rfl, hp.cells.1]
 ·rintro k c H' L ⟨a1, a2, a3, a4, a5, a6⟩ he hL
  have h2n : H2.n = H.n + 3 := hpn2
  refine ⟨rfl, rfl, rfl, ?_⟩
  intro H3 L' hV
  have hn3 := hV.n
  have d1 : H3.get (H.n + 1) = .cells true 3 [iv (pv (ps.drop (k + 1)) x)] := by rw [hV.other _ (by omega)]; exact a3
  have d0 : H3.get H.n = .cells true 3 [iv x] := by rw [hV.other _ (by omega)]; exact a2
  obtain ⟨s1, s2, s3, s4⟩ := pv_small hx hc hl k
  have hd := pv_drop (x := x) he
  have hcm : pv (ps.drop (k + 1)) x * x = x * pv (ps.drop (k + 1)) x := Int.mul_comm _ _
  refine ⟨_, load_var hT d1, ?_⟩
  refine ⟨_, load_var hT d0, ?_⟩
  refine ⟨⟨by omega, by omega⟩, ?_⟩
  refine ⟨⟨by omega, by omega⟩, ?_⟩
  refine ⟨_, store_var hT d1, ?_⟩
  let H4 : Heap := H3.set (H.n + 1) (.cells true 3 [iv (pv (ps.drop (k + 1)) x * x + c)])
  have hW : Upd H3 (H.n + 1) (.cells true 3 [iv (pv (ps.drop (k + 1)) x * x + c)]) H4 := upd_set (by omega) (by omega)
  have e1 : pv (ps.drop (k + 1)) x * x + c = pv (ps.drop k) x := by omega
  rw [e1] at hW
  have hn4 := hW.n
  have fin : H4.get (H2.n + 1) = .loop L' /\ (∀ A, A < H.n -> H4.get A = H.get A) /\ H4.get H.n = .cells true 3 [iv x] /\ H4.get (H.n + 1) = .cells true 3 [iv (pv (ps.drop k) x)] /\ H4.get (H.n + 2) = .cells true 22 [p] /\ H4.get (H.n + 3) = .dfr /\ H4.n = H.n + 5 := by
   refine ⟨?_, fun A hA => ?_, ?_, hW.at_, ?_, ?_, by omega⟩
   ·rw [hW.other _ (by omega)]; exact hV.at_
   ·rw [hW.other _ (by omega), hV.other _ (by omega)]; exact a1 A hA
   ·rw [hW.other _ (by omega)]; exact d0
   ·rw [hW.other _ (by omega), hV.other _ (by omega)]; exact a4
   ·rw [hW.other _ (by omega), hV.other _ (by omega)]; exact a5
  exact ⟨rfl, fin⟩
 ·rintro H' H3 ⟨a1, a2, a3, a4, a5, a6⟩ hV
  have h2n : H2.n = H.n + 3 := hpn2
  have hn3 := hV.n
  have d1 : H3.get (H.n + 1) = .cells true 3 [iv (pv (ps.drop 0) x)] := by rw [hV.other _ (by omega)]; exact a3
  refine ⟨_, load_var hT d1, ?_⟩
  have hd : H3.get H2.n = .dfr := by rw [h2n, hV.other _ (by omega)]; exact a5
  have hW := upd_set (H := H3) (b := H2.n) (x := .dead) (by omega) (by omega)
  refine ⟨H3.set H2.n .dead, by simp only [shutMarks, hd], ?_⟩
  have hfin : iv (pv (ps.drop 0) x) = iv (pv ps x) /\ Kp H (H3.set H2.n .dead) 10 := ⟨rfl, by have := hW.n; omega, by have := hW.n; omega, fun A hA => by rw [hW.other A (by omega), hV.other A (by omega)]; exact a1 A hA⟩
  exact hfin
end Go.PI

namespace Go.PI
open IM
structure Quad (p0 p1 p2 p3 b a c d : Int) : Prop where
 h0 : b * d = p0
 h1 : a * d + b * c = p1
 h2 : b + d + a * c = p2
 h3 : a + c = p3
theorem Quad.swap {p0 p1 p2 p3 b a c d : Int} (h : Quad p0 p1 p2 p3 b a c d) : Quad p0 p1 p2 p3 d c a b := by
 obtain ⟨h0, h1, h2, h3⟩ := h
 refine ⟨by rw [Int.mul_comm]; exact h0, ?_, ?_, by omega⟩
 ·rw [Int.mul_comm c b, Int.mul_comm d a]; omega
 ·rw [Int.mul_comm c a]; omega
theorem factor_small {b d p m : Int} (h : b * d = p) (hp : p ≠ 0) (hm : -m <= p /\ p <= m) : -m <= b /\ b <= m /\ b ≠ 0 := by
 have hd : d ≠ 0 := fun e => hp (by rw [← h, e, Int.mul_zero])
 have hb : b ≠ 0 := fun e => hp (by rw [← h, e, Int.zero_mul])
 have e : b.natAbs * d.natAbs = p.natAbs := by rw [← Int.natAbs_mul, h]
 have : b.natAbs <= b.natAbs * d.natAbs := Nat.le_mul_of_pos_right _ (by omega)
 omega
theorem dvd_small {b p m : Int} (h : b ∣ p) (hp : p ≠ 0) (hm : -m <= p /\ p <= m) : -m <= b /\ b <= m /\ b ≠ 0 := by
 obtain ⟨d, hd⟩ := h
 exact factor_small hd.symm hp hm
theorem sq_lt {x m : Int} (hm : 0 <= m) (h : x * x < m * m) : x < m := by
 apply Int.not_le.1
 intro hh
 have := Int.mul_le_mul hh hh hm (by omega)
 omega
theorem Quad.bound {p0 p1 p2 p3 b a c d : Int} (h : Quad p0 p1 p2 p3 b a c d) (k0 : p0 ≠ 0) (b0 : -1000 <= p0 /\ p0 <= 1000) (b2 : -1000 <= p2 /\ p2 <= 1000) (b3 : -1000 <= p3 /\ p3 <= 1000) (hca : c <= a) : -2002 <= a /\ a <= 2002 := by
 have hb := factor_small h.h0 k0 b0
 have hd := factor_small h.swap.h0 k0 b0
 have e3 := mul_bd (a := p3) (b := p3) (m := 1000) (n := 1000) (by omega) (by omega)
 have h2 := h.h2
 have h3 := h.h3
 have e : (a - c) * (a - c) = p3 * p3 - 4 * (a * c) := by rw [← h3]; grind
 have := sq_lt (x := a - c) (m := 1010) (by omega) (by omega)
 omega
theorem half_sum {u p s : Int} (h : s * s = u * u - 4 * p) : 2 * ((u + s).tdiv 2) = u + s /\ (u + s).tdiv 2 * (u - (u + s).tdiv 2) = p := by
 obtain ⟨v, hv⟩ : ∃ v, u = 2 * v ∨ u = 2 * v + 1 := ⟨u / 2, by omega⟩
 obtain ⟨w, hw⟩ : ∃ w, s = 2 * w ∨ s = 2 * w + 1 := ⟨s / 2, by omega⟩
 have hpar : ∃ z, u + s = 2 * z := by
  rcases hv with hv | hv <;> rcases hw with hw | hw
  ·exact ⟨v + w, by omega⟩
  ·exfalso
   have e1 : s * s = 4 * (w * w + w) + 1 := by rw [hw]; grind
   have e2 : u * u = 4 * (v * v) := by rw [hv]; grind
   omega
  ·exfalso
   have e1 : s * s = 4 * (w * w) := by rw [hw]; grind
   have e2 : u * u = 4 * (v * v + v) + 1 := by rw [hv]; grind
   omega
  ·exact ⟨v + w + 1, by omega⟩
 obtain ⟨z, hz⟩ := hpar
 have ez : (u + s).tdiv 2 = z := by rw [hz, Int.mul_comm]; exact Int.mul_tdiv_cancel z (by decide)
 rw [ez]
 refine ⟨hz.symm, ?_⟩
 have es : s = 2 * z - u := by omega
 have : (2 * z - u) * (2 * z - u) = u * u - 4 * (z * (u - z)) := by grind
 rw [← es, h] at this
 omega
theorem quad_iff {p0 p1 p2 p3 b d s : Int} (h0 : b * d = p0) (hs : 0 <= s) (hr : p3 * p3 - 4 * (p2 - b - d) <= s * s) (hl : ∀ t : Int, 0 <= t -> p3 * p3 - 4 * (p2 - b - d) <= t * t -> s <= t) :
  (s * s = p3 * p3 - 4 * (p2 - b - d) /\ (p3 + s).tdiv 2 * d + b * (p3 - (p3 + s).tdiv 2) = p1) ↔ ∃ a c e, Quad p0 p1 p2 p3 b a c e /\ e = d /\ c <= a := by
 constructor
 ·rintro ⟨h, h1⟩
  obtain ⟨x1, x2⟩ := half_sum h
  exact ⟨_, p3 - (p3 + s).tdiv 2, d, ⟨h0, h1, by omega, by omega⟩, rfl, by omega⟩
 ·rintro ⟨a, c, e, q, rfl, hca⟩
  have h1 := q.h1
  have h2 := q.h2
  have h3 := q.h3
  have ed : (a - c) * (a - c) = p3 * p3 - 4 * (p2 - b - e) := by
   have : (a - c) * (a - c) = (a + c) * (a + c) - 4 * (a * c) := by grind
   rw [this, h3]; omega
  have l1 := hl (a - c) (by omega) (by omega)
  by_cases hlt : s < a - c
  ·exfalso
   -- s is not least: then its square would not reach
   have hs2 : s * s < (a - c) * (a - c) := by
    have m1 := Int.mul_le_mul_of_nonneg_left (show s <= a - c by omega) hs
    have m2 := Int.mul_lt_mul_of_pos_right hlt (show 0 < a - c by omega)
    omega
   omega
  ·have es : s = a - c := by omega
   subst es
   refine ⟨ed, ?_⟩
   have ea : (p3 + (a - c)).tdiv 2 = a := by
    have : p3 + (a - c) = a * 2 := by omega
    rw [this]; exact Int.mul_tdiv_cancel a (by decide)
   rw [ea]
   have : p3 - a = c := by omega
   rw [this]; exact h1
theorem quads_iff {p0 p1 p2 p3 : Int} (k0 : p0 ≠ 0) (b0 : -1000 <= p0 /\ p0 <= 1000) (b2 : -1000 <= p2 /\ p2 <= 1000) (b3 : -1000 <= p3 /\ p3 <= 1000) :
  (∃ b, b ∣ p0 /\ ∃ a c d, Quad p0 p1 p2 p3 b a c d /\ c <= a) ↔
   ∃ b a, (-1000 <= b /\ b <= 1000) /\ (b ≠ 0 /\ b ∣ p0) /\ (-2002 <= a /\ a <= 2002) /\ b * (p2 - b - a * (p3 - a)) = p0 /\ a * (p2 - b - a * (p3 - a)) + b * (p3 - a) = p1 := by
 constructor
 ·rintro ⟨b, hb, a, c, d, q, hca⟩
  have s1 := dvd_small hb k0 b0
  have s2 := q.bound k0 b0 b2 b3 hca
  have h2 := q.h2
  have h3 := q.h3
  have ec : p3 - a = c := by omega
  have ed : p2 - b - a * (p3 - a) = d := by rw [ec]; omega
  exact ⟨b, a, ⟨s1.1, s1.2.1⟩, ⟨s1.2.2, hb⟩, s2, by rw [ed]; exact q.h0, by rw [ed, ec]; exact q.h1⟩
 ·rintro ⟨b, a, hb, ⟨hb0, hd⟩, ha, e0, e1⟩
  have q : Quad p0 p1 p2 p3 b a (p3 - a) (p2 - b - a * (p3 - a)) := ⟨e0, e1, by omega, by omega⟩
  by_cases hca : p3 - a <= a
  ·exact ⟨b, hd, _, _, _, q, hca⟩
  ·exact ⟨_, ⟨b, by rw [Int.mul_comm]; exact e0.symm⟩, _, _, _, q.swap, by omega⟩
theorem root_dvd {p0 x : Int} {cs : List Int} (h : pv (p0 :: cs) x = 0) : x ∣ p0 := by
 have : p0 + x * pv cs x = 0 := h
 exact ⟨- pv cs x, by rw [Int.mul_neg]; omega⟩
theorem roots_iff {p0 : Int} {cs : List Int} (k0 : p0 ≠ 0) (b0 : -1000 <= p0 /\ p0 <= 1000) : (∃ b, b ∣ p0 /\ pv (p0 :: cs) b = 0) ↔ ∃ x, (-1001 <= x /\ x <= 1001) /\ pv (p0 :: cs) x = 0 := by
 constructor
 ·rintro ⟨b, hb, h⟩
  have := dvd_small hb k0 b0
  exact ⟨b, by omega, h⟩
 ·rintro ⟨x, _, h⟩
  exact ⟨x, root_dvd h, h⟩
theorem root_zero {cs : List Int} : pv (0 :: cs) 0 = 0 := by show (0:Int) + 0 * _ = 0; rw [Int.zero_mul]; rfl
def HasP (ps : List Int) : Prop := ∃ p0 cs, ps = p0 :: cs /\ (p0 = 0 ∨ ∃ b, b ∣ p0 /\ (pv ps b = 0 ∨ ∃ p1 p2 p3, cs = [p1, p2, p3, 1] /\ ∃ a c d, Quad p0 p1 p2 p3 b a c d /\ c <= a))
def HasR (ps : List Int) : Prop := (∃ x, (-1001 <= x /\ x <= 1001) /\ pv ps x = 0) ∨ ∃ p0 p1 p2 p3, ps = [p0, p1, p2, p3, 1] /\ ∃ b a, (-1000 <= b /\ b <= 1000) /\ (b ≠ 0 /\ b ∣ p0) /\ (-2002 <= a /\ a <= 2002) /\ b * (p2 - b - a * (p3 - a)) = p0 /\ a * (p2 - b - a * (p3 - a)) + b * (p3 - a) = p1
theorem has_iff {ps : List Int} (hne : ps ≠ []) (hc : Cf ps) : HasP ps ↔ HasR ps := by
 cases ps with
 | nil => exact absurd rfl hne
 | cons p0 cs =>
  have b0 := hc p0 (by simp)
  by_cases k0 : p0 = 0
  ·subst k0
   exact ⟨fun _ => .inl ⟨0, by omega, root_zero⟩, fun _ => ⟨0, cs, rfl, .inl rfl⟩⟩
  ·constructor
   ·rintro ⟨q0, ds, e, h⟩
    cases e
    rcases h with h | ⟨b, hb, h | ⟨p1, p2, p3, rfl, h⟩⟩
    ·exact absurd h k0
    ·exact .inl ((roots_iff k0 b0).1 ⟨b, hb, h⟩)
    ·exact .inr ⟨p0, p1, p2, p3, rfl, (quads_iff k0 b0 (hc p2 (by simp)) (hc p3 (by simp))).1 ⟨b, hb, h⟩⟩
   ·rintro (h | ⟨q0, p1, p2, p3, e, h⟩)
    ·obtain ⟨b, hb, h⟩ := (roots_iff k0 b0).2 h
     exact ⟨p0, cs, rfl, .inr ⟨b, hb, .inl h⟩⟩
    ·cases e
     obtain ⟨b, hb, h⟩ := (quads_iff k0 b0 (hc p2 (by simp)) (hc p3 (by simp))).2 h
     exact ⟨p0, _, rfl, .inr ⟨b, hb, .inr ⟨p1, p2, p3, rfl, h⟩⟩⟩
end Go.PI

open Go.Proofs
namespace Go.PI
open IM
theorem fn141 : ctx.fn 141 = some c141 := by kernel_rfl
theorem fn202 : ctx.fn 202 = some c202 := by kernel_rfl
theorem fn205 : ctx.fn 205 = some c205 := by kernel_rfl
theorem fn206 : ctx.fn 206 = some c206 := by kernel_rfl
theorem fn239 : ctx.fn 239 = some c239 := by kernel_rfl
set_option maxRecDepth 10000
set_option maxHeartbeats 4000000
theorem wrap_u {n : Int} (h : 0 <= n /\ n < 9223372036854775808) : IntKind.u64.wrap n = n := by
 simp [IntKind.wrap, IntKind.bits, IntKind.signed]; omega
theorem wrap_i {n : Int} (h : 0 <= n /\ n < 9223372036854775808) : IntKind.i64.wrap n = n := by
 simp [IntKind.wrap, IntKind.bits, IntKind.signed]; omega
theorem conv_u {C : Ctx} {ρ : Operand -> Option AV} {x : Operand} {n : Int} (hT : C.ty = tget) (hx : ρ x = some (iv n)) (h : 0 <= n /\ n < 9223372036854775808) : pureE C ρ (.convert 3 240 x) = some (.int .u64 n) := by
 have h3 : C.ty 3 = some t3 := by rw [hT]; rfl
 have h4 : C.ty 240 = some t240 := by rw [hT]; rfl
 simp only [pureE, h3, h4, hx, t240, wrap_u h]
theorem conv_i {C : Ctx} {ρ : Operand -> Option AV} {x : Operand} {n : Int} (hT : C.ty = tget) (hx : ρ x = some (.int .u64 n)) (h : 0 <= n /\ n < 9223372036854775808) : pureE C ρ (.convert 240 3 x) = some (iv n) := by
 have h3 : C.ty 3 = some t3 := by rw [hT]; rfl
 have h4 : C.ty 240 = some t240 := by rw [hT]; rfl
 simp only [pureE, h3, h4, hx, t3, wrap_i h]
theorem shr_u {C : Ctx} {t : TypeId} {x y : Operand} {k : IntKind} {m : Int} : binE C .shr t x y (.int .u64 m) (.int k 1) = some (.int .u64 (m / 2)) := by
 simp [binE, isShift, shiftE, IntKind.bits, Int.fdiv_eq_ediv]
theorem mat_some {o : Option AV} {v : AV} {K : AV -> Prop} (h : o = some v) (k : K v) : match (generalizing := false) o with
  | some v => K v
  | none => False := by rw [h]; exact k
variable (S : FuncId -> Option (List AV -> Heap -> Option (AV × Heap)))
theorem search_run (h205 : S 205 = none) {H : Heap} {n : Int} {g : FuncId} {caps : List AV} (P : Int -> Prop) (hn : 0 <= n /\ n <= 1000000000000000000)
  (hP : ∀ s : Int, 0 <= s -> s < n -> Cl (ctx.plus S) g ([] ++ [iv s] ++ caps) H fun r H' => ((r = .bool true /\ P s) ∨ (r = .bool false /\ ¬ P s)) /\ H = H')
  (mono : ∀ s t : Int, s <= t -> P s -> P t) :
  Cl (ctx.plus S) 205 [iv n, .fn g [] caps] H fun r H' => (∃ k, r = iv k /\ (0 <= k /\ k <= n) /\ (∀ s, s < k -> 0 <= s -> ¬ P s) /\ (k < n -> P k)) /\ H = H' := by
 refine cl_of h205 fn205 ?_
 have hT : (ctx.plus S).ty = tget := rfl
 refine ⟨fun m s => ∃ (i j : Int) (j2 j3 j4 j7 j8 j9 j10 j11 j12 j13 j14 j15 j16 j17 j18 j19 j20 j21 j22 j23 j24 j25 : AV),
  s = ⟨[iv n, .fn g [] caps, j2, j3, j4, iv i, iv j, j7, j8, j9, j10, j11, j12, j13, j14, j15, j16, j17, j18, j19, j20, j21, j22, j23, j24, j25], H, []⟩ /\ (m : Int) = j - i /\ (0 <= i /\ i <= j /\ j <= n) /\ (∀ s, s < i -> 0 <= s -> ¬ P s) /\ (j < n -> P j), ⟨n.toNat, ?_⟩, ?_⟩
 ·exact ⟨0, n, _, _, _, _, _, _, _, _, _, _, _, _, _, _, _, _, _, _, _, _, _, _, rfl, by omega, by omega, fun s h1 h2 => by omega, fun h => by omega⟩
 ·rintro m s ⟨i, j, j2, j3, j4, j7, j8, j9, j10, j11, j12, j13, j14, j15, j16, j17, j18, j19, j20, j21, j22, j23, j24, j25, rfl, hm, hij, hlo, hhi⟩
  refine ⟨fun hlt => ?_, fun hge => ?_⟩
  ·refine ⟨⟨by omega, by omega⟩, ?_⟩
   refine ⟨_, conv_u hT (x := .tmp 14) rfl ⟨by omega, by omega⟩, ?_⟩
   have hf : ∀ z : Int, z.fdiv (2 ^ (min (1:Int).toNat IntKind.u64.bits)) = z / 2 := fun z => by simp [IntKind.bits, Int.fdiv_eq_ediv]
   refine ⟨_, conv_i (n := (i + j).fdiv (2 ^ (min (1:Int).toNat IntKind.u64.bits))) hT (x := .tmp 16) rfl ⟨by rw [hf]; omega, by rw [hf]; omega⟩, ?_⟩
   rw [hf]
   refine (hP ((i + j) / 2) (by omega) (by omega)).mono ?_
   rintro r H' ⟨h, rfl⟩
   rcases h with ⟨rfl, hp⟩ | ⟨rfl, hp⟩
   ·exact ⟨((i + j) / 2 - i).toNat, by omega, i, (i + j) / 2, _, _, _, _, _, _, _, _, _, _, _, _, _, _, _, _, _, _, _, _, _, _, rfl, by omega, by omega, hlo, fun _ => hp⟩
   ·refine ⟨⟨by omega, by omega⟩, ?_⟩
    exact ⟨(j - ((i + j) / 2 + 1)).toNat, by omega, (i + j) / 2 + 1, j, _, _, _, _, _, _, _, _, _, _, _, _, _, _, _, _, _, _, _, _, _, _, rfl, by omega, by omega, fun s h1 h2 hs => hp (mono s _ (by omega) hs), hhi⟩
  ·have e : i = j := by omega
   subst e
   exact ⟨⟨i, rfl, by omega, hlo, hhi⟩, rfl⟩
theorem mul_mono {s t : Int} (h0 : 0 <= s) (h : s <= t) : s * s <= t * t := Int.mul_le_mul h h h0 (by omega)
theorem max_of2 {C : Ctx} {ρ : Operand -> Option AV} {x y : Operand} {ts : Array TypeId} {a b : Int} (hx : ρ x = some (iv a)) (hy : ρ y = some (iv b)) :
  ∃ m, pureE C ρ (.call { callee := .builtin .max, args := #[x, y], argTypes := ts }) = some (iv m) /\ a <= m /\ b <= m /\ (m = a ∨ m = b) := by
 simp only [pureE, opds, hx, hy, builtinP, foldMinMax]
 simp only [if_true]
 refine ⟨_, rfl, ?_, ?_, ?_⟩ <;> (repeat' split) <;> omega
theorem above_run (h206 : S 206 = none) {H : Heap} {b : Nat} {s n : Int} (hb : H.get b = .cells true 3 [iv n]) (hs : 0 <= s /\ s <= 1000000000) :
  Cl (ctx.plus S) 206 ([] ++ [iv s] ++ [.ptr b 0]) H fun r H' => ((r = .bool true /\ (0 <= s /\ n <= s * s)) ∨ (r = .bool false /\ ¬ (0 <= s /\ n <= s * s))) /\ H = H' := by
 refine cl_of h206 fn206 ?_
 have hT : (ctx.plus S).ty = tget := rfl
 have hb2 := mul_bd (a := s) (b := s) (m := 1000000000) (n := 1000000000) (by omega) (by omega)
 refine ⟨⟨by omega, by omega⟩, ?_⟩
 refine ⟨_, load_var hT hb, ?_⟩
 refine ⟨fun h => ?_, fun h => ?_⟩
 ·exact ⟨.inl ⟨rfl, by omega, h⟩, rfl⟩
 ·exact ⟨.inr ⟨rfl, fun hh => by omega⟩, rfl⟩
theorem rootAbove_run (h141 : S 141 = none) (h205 : S 205 = none) (h206 : S 206 = none) {H : Heap} {n : Int} (hl : H.n + 5 < lim) (hn : -1000000000 <= n /\ n <= 1000000000) :
  Cl (ctx.plus S) 141 [iv n] H fun r H' => (∃ k, r = iv k /\ 0 <= k /\ n <= k * k /\ ∀ t, 0 <= t -> n <= t * t -> k <= t) /\ Kp H H' 1 := by
 refine cl_of h141 fn141 ?_
 have hT : (ctx.plus S).ty = tget := rfl
 have hp := Heap.get_push (H := H) (b := .cells true 3 [iv n]) (by omega)
 have hpn : (H.push (.cells true 3 [iv n])).n = H.n + 1 := rfl
 have hg : (H.push (.cells true 3 [iv n])).get H.n = .cells true 3 [iv n] := by rw [hp, if_pos rfl]
 refine ⟨by omega, ?_⟩
 refine ⟨_, load_var hT hg, ?_⟩
 obtain ⟨m, e, h1, h2, h3⟩ := max_of2 (C := ctx.plus S) (ρ := opd [iv n, .ptr H.n 0, iv 0, iv n, undefA, undefA, undefA]) (x := .tmp 3) (y := .const (.int .i64 0)) (ts := #[3, 3]) rfl rfl
 refine ⟨_, e, ?_⟩
 refine ⟨_, rfl, ?_⟩
 refine (search_run S h205 (H := H.push (.cells true 3 [iv n])) (n := m) (g := 206) (caps := [.ptr H.n 0]) (fun s => 0 <= s /\ n <= s * s) (by omega) (fun s k1 k2 => above_run S h206 hg (by omega)) (fun s t h1 h2 => ⟨by omega, by have := mul_mono h2.1 h1; omega⟩)).mono ?_
 rintro _ _ ⟨⟨k, rfl, k1, k2, k3⟩, rfl⟩
 refine ⟨⟨k, rfl, by omega, ?_, fun t t1 t2 => ?_⟩, by omega, by omega, fun A hA => by rw [hp, if_neg (by omega)]⟩
 ·by_cases hkm : k < m
  ·exact (k3 hkm).2
  ·have : k = m := by omega
   subst this
   by_cases hk1 : k <= 0
   ·have : k = 0 := by omega
    subst this; omega
   ·have := Int.mul_le_mul_of_nonneg_left (show 1 <= k by omega) (show 0 <= k by omega)
    omega
 ·apply Int.not_lt.1
  intro hh
  exact k2 t hh t1 ⟨t1, t2⟩
theorem squareRoot_run (h239 : S 239 = none) (h141 : S 141 = none) (h205 : S 205 = none) (h206 : S 206 = none) {H : Heap} {n : Int} (hl : H.n + 5 < lim) (hn : -1000000000 <= n /\ n <= 1000000000) :
  Cl (ctx.plus S) 239 [iv n] H fun r H' => (∃ k β, r = .tup [iv k, .bool β] /\ (0 <= k /\ k <= 1000000001) /\ n <= k * k /\ (∀ t, 0 <= t -> n <= t * t -> k <= t) /\ (β = true ↔ k * k = n)) /\ Kp H H' 1 := by
 refine cl_of h239 fn239 ?_
 refine (rootAbove_run S h141 h205 h206 hl hn).mono ?_
 rintro _ H1 ⟨⟨k, rfl, k0, k1, k2⟩, hK⟩
 have kb : k <= 1000000001 := k2 _ (by omega) (by omega)
 have hb2 := mul_bd (a := k) (b := k) (m := 1000000001) (n := 1000000001) (by omega) (by omega)
 refine ⟨⟨by omega, by omega⟩, ?_⟩
 refine ⟨fun h => ?_, fun h => ?_⟩
 ·exact ⟨⟨k, true, rfl, by omega, k1, k2, fun _ => h, fun _ => rfl⟩, hK⟩
 ·exact ⟨⟨k, false, rfl, by omega, k1, k2, fun h => (by cases h), fun hh => absurd hh h⟩, hK⟩
end Go.PI

