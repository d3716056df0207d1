/- Own work of the verifier: CiRef5 CiRefB CvInt CvRatQ CvRtr CvRsz CvQuot CiMix CiEucl CiGcdL CvGcd. -/
import Derived.Test.YtdflpkkgjppmgaaGreatChBA
import Derived.Test.YtdflpkkgjppmgaaGreatChAT
import Derived.Test.YtdflpkkgjppmgaaGreatChAU
import Derived.Test.YtdflpkkgjppmgaaGreatChAZ
set_option linter.all false
set_option exponentiation.threshold 3000
set_option linter.deprecated false
/- The reference's Mul. -/
open Go.Proofs
namespace Go.PI
open IM
set_option maxRecDepth 10000
set_option maxHeartbeats 4000000
variable (S : FuncId → Option (List AV → Heap → Option (AV × Heap)))
theorem val_take_snoc {us : List Int} {i : Nat} {e : Int} (h : us[i]? = some e) : val (us.take (i + 1)) = val (us.take i) + pw i * e := by
  have hl := (List.getElem?_eq_some_iff.1 h).1
  rw [take_snoc h, val_snoc, List.length_take, Nat.min_eq_left (by omega)]
theorem sml_val {us : List Int} (h : Sml us) : -pw us.length < val us ∧ val us < pw us.length := by
  induction us with
  | nil => decide
  | cons x xs ih =>
    have h1 := h x (by simp)
    have h2 := ih fun y hy => h y (by simp [hy])
    simp only [val, List.length_cons, pw]
    omega
theorem abs_mul_lt {a b p q : Int} (ha : -p < a ∧ a < p) (hb : -q < b ∧ b < q) : -(p * q) < a * b ∧ a * b < p * q := by
  have h := mul_bd (a := a) (b := b) (m := p - 1) (n := q) (by omega) (by omega)
  have e : (p - 1) * q = p * q - q := by rw [Int.sub_mul]; omega
  rw [e] at h
  omega
theorem rmul_run (hR : OldR S) {H : Heap} {x y : AV} {xs ys : List Int} {X Y : Int} (hn : H.n + 20000 < lim) (hx : SV H x xs X) (hy : SV H y ys Y) (hxy : (digits X).length + (digits Y).length ≤ 20) :
    Cl (ctx.plus S) 62 [x, y] H fun r H' => Mine H H.n r (digits (X * Y)) H' ∧ H'.n ≤ H.n + 10000 := by
  refine cl_of hR.h62 fn62 ?_
  have hT : (ctx.plus S).ty = tget := rfl
  have lx := hx.len
  have ly := hy.len
  refine (rnormal_run S hR.h82 hR.h124 hR.h125 hR.h126 (by omega) hx.sl (by omega) hx.in64).mono ?_
  rw [hx.val]
  rintro a H1 ⟨hM1, hn1⟩
  have k1 := hM1.kp (c := 120) (by omega)
  have k1m := k1.m
  have k1n := k1.n
  refine (rnormal_run S hR.h82 hR.h124 hR.h125 hR.h126 (H := H1) (by omega) (hy.sl.kp k1) (by omega) hy.in64).mono ?_
  rw [hy.val]
  rintro b H2 ⟨hM2, hn2⟩
  have k2 := hM2.kp (c := 120) (by omega)
  have k2m := k2.m
  have k2n := k2.n
  have ha : Sl H2 a (digits X) := hM1.toSl.kp k2
  have hb : Sl H2 b (digits Y) := hM2.toSl
  have su := (nrm_digits X).sml'
  have sw := (nrm_digits Y).sml'
  have vu := val_digits X
  have vw := val_digits Y
  obtain ⟨us, hus⟩ : ∃ us, digits X = us := ⟨_, rfl⟩
  obtain ⟨ws, hws⟩ : ∃ ws, digits Y = ws := ⟨_, rfl⟩
  rw [hus] at ha su vu hxy
  rw [hws] at hb sw vw hxy
  have bw := sml_val sw
  rw [vw] at bw
  have hP : pw us.length * pw ws.length ≤ pw 20 := by rw [← pw_add]; exact pw_mono hxy
  have bnd : ∀ i : Nat, i ≤ us.length → -pw 20 < val (us.take i) * Y ∧ val (us.take i) * Y < pw 20 := fun i hi => by
    have s1 := sml_val (us := us.take i) (fun z hz => su z (List.mem_of_mem_take hz))
    rw [List.length_take, Nat.min_eq_left hi] at s1
    have h := abs_mul_lt s1 bw
    have : pw i * pw ws.length ≤ pw us.length * pw ws.length := Int.mul_le_mul_of_nonneg_right (pw_mono hi) (by have := pw_pos ws.length; omega)
    omega
  have fin : ∀ (o : AV) (H' : Heap), Sl H' o (digits (val (us.take us.length) * Y)) → H2.n ≤ H'.n → (∀ A, A < H2.n → H'.get A = H2.get A) → H'.n ≤ H2.n + 470 * us.length → Cl (ctx.plus S) 82 [o] H' fun r H3 => Mine H H.n r (digits (X * Y)) H3 ∧ H3.n ≤ H.n + 10000 := by
    intro o H' ho hn1' hk' hn2'
    rw [List.take_length, vu] at ho
    have hb2 := bnd us.length (Nat.le_refl _)
    rw [List.take_length, vu] at hb2
    have hsv := SV.of ho hb2
    have hln := hsv.len
    refine (rnormal_run S hR.h82 hR.h124 hR.h125 hR.h126 (H := H') (by omega) ho (by omega) hsv.in64).mono ?_
    rw [val_digits]
    rintro r H3 ⟨h1, h2⟩
    exact ⟨h1.up (by omega) (fun A hA => by rw [hk' A (by omega), k2.get A (by omega), k1.get A hA]), by omega⟩
  refine ⟨fun m s => ∃ (i : Nat) (n : Int) (o : AV) (H' : Heap) (T : List AV),
    s = ⟨T, H', []⟩ ∧ T.length = 44 ∧ T.getD 0 undefA = a ∧ T.getD 1 undefA = b ∧ T.getD 5 undefA = o ∧ T.getD 6 undefA = iv n ∧ m = us.length - i ∧ n = i ∧ i ≤ us.length ∧ Sl H' o (digits (val (us.take i) * Y)) ∧ H2.n ≤ H'.n ∧ (∀ A, A < H2.n → H'.get A = H2.get A) ∧ H'.n ≤ H2.n + 470 * i, ⟨us.length, ?_⟩, ?_⟩
  · exact ⟨0, _, .nils, H2, _, rfl, rfl, rfl, rfl, rfl, rfl, rfl, rfl, Nat.zero_le _, by simp [val]; rfl, Nat.le_refl _, fun _ _ => rfl, by omega⟩
  · rintro m s ⟨i, n, o, H', T, rfl, hTl, h0t, h1t, h5t, h6t, rfl, rfl, hi, ho, hn3, hk3, hn4⟩
    obtain ⟨J, rfl⟩ : ∃ J : Nat → AV, T = [a, b, J 2, J 3, J 4, o, iv i, J 7, J 8, J 9, J 10, J 11, J 12, J 13, J 14, J 15, J 16, J 17, J 18, J 19, J 20, J 21, J 22, J 23, J 24, J 25, J 26, J 27, J 28, J 29, J 30, J 31, J 32, J 33, J 34, J 35, J 36, J 37, J 38, J 39, J 40, J 41, J 42, J 43] := ⟨fun i => T.getD i undefA, (ex44 T hTl).trans (by rw [h0t, h1t, h5t, h6t])⟩
    clear hTl h0t h1t h5t h6t
    have ha' : Sl H' a us := ha.mono hk3
    have hb' : Sl H' b ws := hb.mono hk3
    refine ⟨_, len_sl hT (v := a) rfl ha', ?_⟩
    refine ⟨fun hlt => ?_, fun hge => ?_⟩
    · obtain ⟨e, he⟩ : ∃ e, us[i]? = some e := ⟨us[i]'(by omega), List.getElem?_eq_getElem _⟩
      have heB := su e (List.mem_of_getElem? he)
      refine ⟨by omega, ⟨by omega, by omega, by omega⟩, ?_⟩
      rw [show ((i : Int)).toNat = i by omega, show (List.replicate i t3.zero.cells).flatten = ints (List.replicate i 0) from ints_zeros _]
      have hp := Heap.get_push (H := H') (b := .cells true 3 (ints (List.replicate i 0))) (by omega)
      have hpn : (H'.push (.cells true 3 (ints (List.replicate i 0)))).n = H'.n + 1 := rfl
      generalize H'.push (.cells true 3 (ints (List.replicate i 0))) = Hp at hp hpn ⊢
      have hkp : ∀ A, A < H'.n → Hp.get A = H'.get A := fun A hA => by rw [hp, if_neg (by omega)]
      have hM0 : Mine H' H'.n (.sl H'.n 0 i i) (List.replicate i 0) Hp := by
        have := Mine.fresh_refl (H := H') (b := H'.n) (zs := List.replicate i 0) (v := .sl H'.n 0 i i) (l := i) (H1 := Hp) (by omega) hkp ⟨by rw [hp, if_pos rfl], by simp, .inl ⟨i, rfl, Nat.le_refl _, by simp⟩⟩ (Nat.le_refl _)
        rwa [List.take_of_length_le (by simp)] at this
      refine ⟨fun m s => ∃ (k : Nat) (n : Int) (r : AV) (H3 : Heap) (T : List AV),
        s = ⟨T, H3, []⟩ ∧ T.length = 44 ∧ T.getD 0 undefA = a ∧ T.getD 1 undefA = b ∧ T.getD 5 undefA = o ∧ T.getD 6 undefA = iv i ∧ T.getD 7 undefA = r ∧ T.getD 8 undefA = iv n ∧ m = ws.length - k ∧ n = k ∧ k ≤ ws.length ∧ Mine H' H'.n r (List.replicate i 0 ++ mulL e (ws.take k)) H3 ∧ H3.n ≤ H'.n + 1 + 2 * k, ⟨ws.length, ?_⟩, ?_⟩
      · exact ⟨0, _, _, Hp, _, rfl, rfl, rfl, rfl, rfl, rfl, rfl, rfl, rfl, rfl, Nat.zero_le _, by simpa [mulL] using hM0, by omega⟩
      · rintro m s ⟨k, n, r, H3, T, rfl, hTl, h0t, h1t, h5t, h6t, h7t, h8t, rfl, rfl, hk, hM3, hn5⟩
        obtain ⟨J', rfl⟩ : ∃ J : Nat → AV, T = [a, b, J 2, J 3, J 4, o, iv i, r, iv k, J 9, J 10, J 11, J 12, J 13, J 14, J 15, J 16, J 17, J 18, J 19, J 20, J 21, J 22, J 23, J 24, J 25, J 26, J 27, J 28, J 29, J 30, J 31, J 32, J 33, J 34, J 35, J 36, J 37, J 38, J 39, J 40, J 41, J 42, J 43] := ⟨fun i => T.getD i undefA, (ex44 T hTl).trans (by rw [h0t, h1t, h5t, h6t, h7t, h8t])⟩
        clear hTl h0t h1t h5t h6t h7t h8t
        have hk4 : ∀ A, A < H'.n → H3.get A = H'.get A := fun A hA => hM3.keep A hA (by omega)
        have hn6 := hM3.n
        have ha3 : Sl H3 a us := ha'.mono hk4
        have hb3 : Sl H3 b ws := hb'.mono hk4
        refine ⟨_, len_sl hT (v := b) rfl hb3, ?_⟩
        refine ⟨fun hlt2 => ?_, fun hge2 => ?_⟩
        · obtain ⟨f, hf⟩ : ∃ e, ws[k]? = some e := ⟨ws[k]'(by omega), List.getElem?_eq_getElem _⟩
          have hfB := sw f (List.mem_of_getElem? hf)
          have hef := mul_bd (a := e) (b := f) (m := 100000000) (n := 100000000) (by omega) (by omega)
          obtain ⟨bx, ox, hbx, hax⟩ := ha3.addr (by intro h; subst h; simp at he)
          obtain ⟨b2, o2, hb2, ha2⟩ := hb3.addr (by intro h; subst h; simp at hf)
          have lx : loadE (ctx.plus S) 3 (addr a i) H3 = some (iv e) := load_sl hT ha3 he
          have ly : loadE (ctx.plus S) 3 (addr b k) H3 = some (iv f) := load_sl hT hb3 hf
          have lx' : loadE (ctx.plus S) 3 (.ptr bx (ox + i)) H3 = some (iv e) := by rw [← hax]; exact lx
          have ly' : loadE (ctx.plus S) 3 (.ptr b2 (o2 + k)) H3 = some (iv f) := by rw [← ha2]; exact ly
          have si : ∀ n : Int, (iv n).same (iv n) = true := fun n => by simp [AV.same, AV.sames]
          refine ⟨_, idx_sl hT (v := a) (n := (i : Int)) (k := i) rfl rfl ha3 rfl (by omega), ?_⟩
          refine ⟨_, lx, ?_⟩
          refine ⟨_, idx_sl hT (v := b) (n := (k : Int)) (k := k) rfl rfl hb3 rfl (by omega), ?_⟩
          refine ⟨_, ly, ?_⟩
          refine ⟨⟨by omega, by omega⟩, ?_⟩
          refine ⟨by omega, _, _, rfl, ?_⟩
          obtain ⟨r2, H4, hap, hM4, hn7⟩ := append_mine hT (C := ctx.plus S) (e := e * f) (by omega) (by simp [mulL]; omega) hM3
          have hge4 := appendE_ge hap
          refine ⟨r2, H4, hap, ?_⟩
          refine ⟨draw_of4 [[], [], [], [], [true, false, false, false, false, false, false, false, false, false, false, false, false, false], [], [], [], [true, false, false, false, false, false, false, false, false, false, false, false, false, false], [], [], [], []] (by kernel_rfl) rfl ?_ ?_ ?_, ?_⟩
          · exact ⟨trivial, trivial, trivial, trivial, ⟨_, _, _, congrArg some (hax _), lx', si _, rfl, trivial⟩, trivial, trivial, trivial, ⟨_, _, _, congrArg some (ha2 _), ly', si _, rfl, trivial⟩, trivial, trivial, trivial, trivial, trivial⟩
          · exact ⟨trivial, trivial, trivial, trivial, trivial, trivial, trivial, trivial, trivial, trivial, ⟨_, _, _, rfl⟩, trivial, trivial, trivial⟩
          · repeat' (first | exact trivial | refine ⟨Nat.le_refl _, ?_⟩ | refine ⟨Nat.le_succ _, ?_⟩ | refine ⟨hge4, ?_⟩)
          refine ⟨⟨by omega, by omega⟩, ?_⟩
          refine ⟨ws.length - (k + 1), by omega, k + 1, _, r2, H4, _, rfl, rfl, rfl, rfl, rfl, rfl, rfl, rfl, rfl, rfl, by omega, ?_, by omega⟩
          rw [take_snoc hf, mulL_snoc, ← List.append_assoc]
          exact hM4
        · have hkl : k = ws.length := by omega
          subst hkl
          rw [List.take_length] at hM3
          have hrow : val (List.replicate i 0 ++ mulL e ws) = pw i * (e * Y) := by
            rw [val_append, val_zeros, mulL_val, vw, List.length_replicate]; omega
          have hrb : -pw 20 < pw i * (e * Y) ∧ pw i * (e * Y) < pw 20 := by
            have h1 := abs_mul_lt (a := e) (b := Y) (p := 100000000) (q := pw ws.length) heB bw
            have h2 := mul_bd (a := pw i) (b := e * Y) (m := pw i) (n := 100000000 * pw ws.length - 1) (by have := pw_pos i; omega) (by omega)
            have e1 : pw i * (100000000 * pw ws.length - 1) = pw (i + 1) * pw ws.length - pw i := by rw [pw_succ]; grind
            rw [e1] at h2
            have h3 : pw (i + 1) * pw ws.length ≤ pw us.length * pw ws.length := Int.mul_le_mul_of_nonneg_right (pw_mono (by omega)) (by have := pw_pos ws.length; omega)
            have := pw_pos i
            omega
          have svr : SV H3 r (List.replicate i 0 ++ mulL e ws) (pw i * (e * Y)) := by
            refine ⟨hM3.sl, fun z hz => ?_, by simp [mulL]; omega, hrow, len_of hrb⟩
            rcases List.mem_append.1 hz with h | h
            · have := (List.mem_replicate.1 h).2
              unfold In64; omega
            · obtain ⟨f, hf, rfl⟩ := List.mem_map.1 h
              have hfB := sw f hf
              have := mul_bd (a := e) (b := f) (m := 100000000) (n := 100000000) (by omega) (by omega)
              unfold In64; omega
          have svo : SV H3 o (digits (val (us.take i) * Y)) (val (us.take i) * Y) := SV.of (ho.mono hk4) (bnd i hi)
          refine (radd_run S hR (H := H3) (by omega) svo svr).mono ?_
          rintro o2 H4 ⟨hM5, hn8⟩
          refine ⟨⟨by omega, by omega⟩, ?_⟩
          refine ⟨us.length - (i + 1), by omega, i + 1, _, o2, H4, _, rfl, rfl, rfl, rfl, rfl, rfl, rfl, rfl, by omega, ?_, by have := hM5.n; omega, fun A hA => by rw [hM5.keep A (by omega) (by omega), hk4 A (by omega)]; exact hk3 A hA, by omega⟩
          rw [val_take_snoc he, show (val (us.take i) + pw i * e) * Y = val (us.take i) * Y + pw i * (e * Y) by rw [Int.add_mul, Int.mul_assoc]]
          exact hM5.toSl
    · have hil : i = us.length := by omega
      subst hil
      exact fin o H' ho hn3 hk3 hn4
end Go.PI
/- The reference's Add, Neg, Sub, Sign, Mul for integers of up to 200 elements. -/
open Go.Proofs
namespace Go.PI
open IM
set_option maxRecDepth 10000
set_option maxHeartbeats 4000000
variable (S : FuncId → Option (List AV → Heap → Option (AV × Heap)))
structure SVB (H : Heap) (v : AV) (xs : List Int) (X : Int) : Prop where
  sl : Sl H v xs
  in64 : ∀ e ∈ xs, In64 e
  len : xs.length ≤ 200
  val : val xs = X
  dl : (digits X).length ≤ 200
theorem SVB.kp {H H' : Heap} {v : AV} {xs : List Int} {X : Int} {c : Nat} (h : SVB H v xs X) (k : Kp H H' c) : SVB H' v xs X := ⟨h.sl.kp k, h.in64, h.len, h.val, h.dl⟩
theorem SVB.of {H : Heap} {v : AV} {X : Int} (h : Sl H v (digits X)) (hb : -pw 200 < X ∧ X < pw 200) : SVB H v (digits X) X :=
  ⟨h, fun e he => by have := (nrm_digits X).sml' e he; unfold In64; omega, len_of hb, val_digits X, len_of hb⟩
theorem radd_runB (hR : OldR S) {H : Heap} {x y : AV} {xs ys : List Int} {X Y : Int} (hn : H.n + 100000 < lim) (hx : SVB H x xs X) (hy : SVB H y ys Y) :
    Cl (ctx.plus S) 75 [x, y] H fun r H' => Mine H H.n r (digits (X + Y)) H' ∧ H'.n ≤ H.n + 3000 := by
  refine cl_of hR.h75 fn75 ?_
  have hT : (ctx.plus S).ty = tget := rfl
  have lx := hx.len
  have ly := hy.len
  have dx := hx.dl
  have dy := hy.dl
  refine (rnormal_run S hR.h82 hR.h124 hR.h125 hR.h126 (by omega) hx.sl (by omega) hx.in64).mono ?_
  rw [hx.val]
  rintro a H1 ⟨hM1, hn1⟩
  have k1 := hM1.kp (c := 900) (by omega)
  have k1m := k1.m
  refine (rnormal_run S hR.h82 hR.h124 hR.h125 hR.h126 (H := H1) (by omega) (hy.sl.kp k1) (by omega) hy.in64).mono ?_
  rw [hy.val]
  rintro b H2 ⟨hM2, hn2⟩
  have k2 := hM2.kp (c := 900) (by omega)
  have k2m := k2.m
  have k1n := k1.n
  have k2n := k2.n
  have ha : Sl H2 a (digits X) := hM1.toSl.kp k2
  have hb : Sl H2 b (digits Y) := hM2.toSl
  obtain ⟨us, hus⟩ : ∃ us, digits X = us := ⟨_, rfl⟩
  obtain ⟨ws, hws⟩ : ∃ ws, digits Y = ws := ⟨_, rfl⟩
  have su := (nrm_digits X).sml'
  have sw := (nrm_digits Y).sml'
  have vu := val_digits X
  have vw := val_digits Y
  rw [hus] at ha su vu dx
  rw [hws] at hb sw vw dy
  have hsl := sumL_length us ws
  have hsb : ∀ e ∈ sumL us ws, -200000000 ≤ e ∧ e ≤ 200000000 := by
    intro e he
    obtain ⟨i, hi⟩ := List.getElem?_of_mem he
    have hlt := (List.getElem?_eq_some_iff.1 hi).1
    rw [sumL_get us ws i (by omega)] at hi
    have g1 : -100000000 < us.getD i 0 ∧ us.getD i 0 < 100000000 := by
      rw [List.getD_eq_getElem?_getD]
      cases h : us[i]? with
      | none => simp
      | some z => simpa using su z (List.mem_of_getElem? h)
    have g2 : -100000000 < ws.getD i 0 ∧ ws.getD i 0 < 100000000 := by
      rw [List.getD_eq_getElem?_getD]
      cases h : ws[i]? with
      | none => simp
      | some z => simpa using sw z (List.mem_of_getElem? h)
    cases hi
    omega
  refine ⟨fun m s => ∃ (i : Nat) (n : Int) (o : AV) (H' : Heap) (T : List AV),
    s = ⟨T, H', []⟩ ∧ T.length = 48 ∧ T.getD 0 undefA = a ∧ T.getD 1 undefA = b ∧ T.getD 5 undefA = o ∧ T.getD 6 undefA = iv n ∧ m = max us.length ws.length - i ∧ n = i ∧ i ≤ max us.length ws.length ∧ MN H2 o ((sumL us ws).take i) H' ∧ H'.n ≤ H2.n + 2 * i, ⟨max us.length ws.length, ?_⟩, ?_⟩
  · exact ⟨0, _, .nils, H2, _, rfl, rfl, rfl, rfl, rfl, rfl, rfl, rfl, Nat.zero_le _, .inl ⟨rfl, rfl, Nat.le_refl _, fun _ _ => rfl⟩, by omega⟩
  · rintro m s ⟨i, n, o, H', T, rfl, hTl, h0t, h1t, h5t, h6t, rfl, rfl, hi, hM, hn'⟩
    obtain ⟨J, rfl⟩ : ∃ J : Nat → AV, T = [a, b, J 2, J 3, J 4, o, iv i, J 7, J 8, J 9, J 10, J 11, J 12, J 13, J 14, J 15, J 16, J 17, J 18, J 19, J 20, J 21, J 22, J 23, J 24, J 25, J 26, J 27, J 28, J 29, J 30, J 31, J 32, J 33, J 34, J 35, J 36, J 37, J 38, J 39, J 40, J 41, J 42, J 43, J 44, J 45, J 46, J 47] := ⟨fun i => T.getD i undefA, (ex48 T hTl).trans (by rw [h0t, h1t, h5t, h6t])⟩
    clear hTl h0t h1t h5t h6t
    have ha' : Sl H' a us := ha.mono hM.keep
    have hb' : Sl H' b ws := hb.mono hM.keep
    have step : ∀ e : Int, e = us.getD i 0 + ws.getD i 0 → i < max us.length ws.length → ∃ r H3, appendE (ctx.plus S) [22, 22] o (.sl H'.n 0 1 1) (H'.push (.cells true 3 [iv e])) = some (r, H3) ∧ MN H2 r ((sumL us ws).take (i + 1)) H3 ∧ H3.n ≤ H2.n + 2 * (i + 1) := by
      intro e he hlt
      obtain ⟨r, H3, h1, h2, h3⟩ := append_mn hT (C := ctx.plus S) (e := e) (by omega) (by simp; omega) hM
      refine ⟨r, H3, h1, .inr ?_, by omega⟩
      have hg := sumL_get us ws i hlt
      rw [take_snoc hg, ← he]
      exact h2
    have gd : ∀ {zs : List Int} {j : Nat} {e : Int}, zs[j]? = some e → zs.getD j 0 = e := fun h => by rw [List.getD_eq_getElem?_getD, h]; rfl
    have gn : ∀ {zs : List Int} {j : Nat}, zs.length ≤ j → zs.getD j 0 = 0 := fun h => by rw [List.getD_eq_getElem?_getD, List.getElem?_eq_none h]; rfl
    have done : i = max us.length ws.length → ∀ r H3, Mine H' H'.n r (digits (val ((sumL us ws).take i))) H3 ∧ H3.n ≤ H'.n + 4 * ((sumL us ws).take i).length + 40 → Mine H H.n r (digits (X + Y)) H3 ∧ H3.n ≤ H.n + 3000 := by
      rintro he r H3 ⟨h1, h2⟩
      rw [List.take_of_length_le (by omega), sumL_val, vu, vw] at h1
      have hl2 : ((sumL us ws).take i).length ≤ 200 := by simp; omega
      refine ⟨h1.up (by have := hM.n; omega) (fun A hA => ?_), by omega⟩
      rw [hM.keep A (by omega), k2.get A (by omega), k1.get A hA]
    have fin : i = max us.length ws.length → Cl (ctx.plus S) 82 [o] H' fun r H3 => Mine H H.n r (digits (X + Y)) H3 ∧ H3.n ≤ H.n + 3000 := fun he =>
      (rnormal_run S hR.h82 hR.h124 hR.h125 hR.h126 (H := H') (by simp; omega) hM.rv.sl (by simp; omega) (fun e he => by have := hsb e (List.mem_of_mem_take he); unfold In64; omega)).mono (done he)
    refine ⟨_, len_sl hT (v := a) rfl ha', ?_⟩
    refine ⟨fun h1 => ?_, fun h1 => ?_⟩
    · obtain ⟨e, he⟩ : ∃ e, us[i]? = some e := ⟨us[i]'(by omega), List.getElem?_eq_getElem _⟩
      have heB := su e (List.mem_of_getElem? he)
      refine ⟨_, len_sl hT (v := a) rfl ha', ?_⟩
      refine ⟨fun _ => ?_, fun h => absurd h1 (by omega)⟩
      refine ⟨_, idx_sl hT (v := a) (n := (i : Int)) (k := i) rfl rfl ha' rfl (by omega), ?_⟩
      refine ⟨_, load_sl hT ha' he, ?_⟩
      refine ⟨_, len_sl hT (v := b) rfl hb', ?_⟩
      refine ⟨fun h2 => ?_, fun h2 => ?_⟩
      · obtain ⟨f, hf⟩ : ∃ e, ws[i]? = some e := ⟨ws[i]'(by omega), List.getElem?_eq_getElem _⟩
        have hfB := sw f (List.mem_of_getElem? hf)
        refine ⟨_, idx_sl hT (v := b) (n := (i : Int)) (k := i) rfl rfl hb' rfl (by omega), ?_⟩
        refine ⟨_, load_sl hT hb' hf, ?_⟩
        refine ⟨⟨by omega, by omega⟩, ?_⟩
        refine ⟨by omega, _, _, rfl, ?_⟩
        obtain ⟨r, H3, q1, q2, q3⟩ := step (e + f) (by rw [gd he, gd hf]) (by omega)
        refine ⟨r, H3, q1, ?_⟩
        refine ⟨⟨by omega, by omega⟩, ?_⟩
        exact ⟨max us.length ws.length - (i + 1), by omega, i + 1, _, r, H3, _, rfl, rfl, rfl, rfl, rfl, rfl, rfl, rfl, by omega, q2, q3⟩
      · refine ⟨by omega, _, _, rfl, ?_⟩
        obtain ⟨r, H3, q1, q2, q3⟩ := step e (by rw [gd he, gn (by omega)]; omega) (by omega)
        refine ⟨r, H3, q1, ?_⟩
        refine ⟨⟨by omega, by omega⟩, ?_⟩
        exact ⟨max us.length ws.length - (i + 1), by omega, i + 1, _, r, H3, _, rfl, rfl, rfl, rfl, rfl, rfl, rfl, rfl, by omega, q2, q3⟩
    · refine ⟨_, len_sl hT (v := b) rfl hb', ?_⟩
      refine ⟨fun h2 => ?_, fun h2 => ?_⟩
      · obtain ⟨f, hf⟩ : ∃ e, ws[i]? = some e := ⟨ws[i]'(by omega), List.getElem?_eq_getElem _⟩
        have hfB := sw f (List.mem_of_getElem? hf)
        refine ⟨_, len_sl hT (v := a) rfl ha', ?_⟩
        refine ⟨fun h => absurd h (by omega), fun _ => ?_⟩
        refine ⟨_, len_sl hT (v := b) rfl hb', ?_⟩
        refine ⟨fun _ => ?_, fun h => absurd h2 (by omega)⟩
        refine ⟨_, idx_sl hT (v := b) (n := (i : Int)) (k := i) rfl rfl hb' rfl (by omega), ?_⟩
        refine ⟨_, load_sl hT hb' hf, ?_⟩
        refine ⟨⟨by omega, by omega⟩, ?_⟩
        refine ⟨by omega, _, _, rfl, ?_⟩
        obtain ⟨r, H3, q1, q2, q3⟩ := step (0 + f) (by rw [gd hf, gn (by omega)]) (by omega)
        refine ⟨r, H3, q1, ?_⟩
        refine ⟨⟨by omega, by omega⟩, ?_⟩
        exact ⟨max us.length ws.length - (i + 1), by omega, i + 1, _, r, H3, _, rfl, rfl, rfl, rfl, rfl, rfl, rfl, rfl, by omega, q2, q3⟩
      · exact fin (by omega)
theorem rneg_runB (hR : OldR S) {H : Heap} {x : AV} {xs : List Int} {X : Int} (hn : H.n + 100000 < lim) (hx : SVB H x xs X) :
    Cl (ctx.plus S) 118 [x] H fun r H' => Mine H H.n r (digits (-X)) H' ∧ H'.n ≤ H.n + 900 := by
  refine cl_of hR.h118 fn118 ?_
  have lx := hx.len
  have dx := hx.dl
  refine (rnormal_run S hR.h82 hR.h124 hR.h125 hR.h126 (by omega) hx.sl (by omega) hx.in64).mono ?_
  rw [hx.val]
  rintro a H1 ⟨hM1, hn1⟩
  have hs := (nrm_digits X).sml'
  refine (signed_run S hR.h126 hR.h125 (H := H1) (β := true) (by omega) hM1.rv (by omega) (fun e he => by have := hs e he; unfold In64; omega)).mono ?_
  rintro r H2 ⟨h, hm⟩
  rw [if_pos rfl, trim_of_top (nrm_digits X).2] at h
  unfold negL at h
  rw [negd] at h
  exact ⟨h.up hM1.n (fun A hA => hM1.keep A hA (by omega)), by omega⟩
theorem rsub_runB (hR : OldR S) {H : Heap} {x y : AV} {xs ys : List Int} {X Y : Int} (hn : H.n + 200000 < lim) (hx : SVB H x xs X) (hy : SVB H y ys Y) :
    Cl (ctx.plus S) 90 [x, y] H fun r H' => Mine H H.n r (digits (X - Y)) H' ∧ H'.n ≤ H.n + 4000 := by
  refine cl_of hR.h90 fn90 ?_
  refine (rneg_runB S hR (by omega) hy).mono ?_
  rintro b H1 ⟨hM1, hn1⟩
  have k1 := hM1.kp hn1
  have hl : (digits (-Y)).length ≤ 200 := by
    have h := negd Y
    have h2 := congrArg List.length h
    simp at h2
    have := hy.dl
    omega
  have hs := (nrm_digits (-Y)).sml'
  refine (radd_runB S hR (H := H1) (x := x) (y := b) (Y := -Y) (by omega) (hx.kp k1) ⟨hM1.toSl, fun e he => by have := hs e he; unfold In64; omega, hl, val_digits _, hl⟩).mono ?_
  rintro r H2 ⟨h, hm⟩
  rw [show X + -Y = X - Y by omega] at h
  exact ⟨h.up hM1.n (fun A hA => hM1.keep A hA (by omega)), by omega⟩
end Go.PI
/- PLAIN VALUES: the arithmetic of integers of any size. -/
open Go.Proofs
namespace Go.PI
open IM
set_option maxRecDepth 10000
set_option maxHeartbeats 1000000
theorem ints_rel {H : Heap} {W : Nat → Prop} : ∀ {xs : List Int} {l : List AV}, All2 (RelC H W) (xs.map pn) l → l = ints xs
  | [], _, h => by cases h; rfl
  | x :: xs, _, h => by
    cases h with
    | cons h1 h2 =>
      cases h1
      rw [ints_rel h2]
      rfl
theorem rel_ints {H : Heap} {W : Nat → Prop} : ∀ (xs : List Int), All2 (RelC H W) (xs.map pn) (ints xs)
  | [] => .nil
  | x :: xs => .cons (.int _ _) (rel_ints xs)
theorem sl_rel {H : Heap} {W : Nat → Prop} {xs : List Int} {a : AV} (h : RelC H W (pIs xs) a) : Sl H a xs ∧ Cp a := by
  have key : ∀ {n : Nat} {cs : List PV}, RelC H W (.lst n cs) a → n = xs.length → cs = xs.map pn → Sl H a xs ∧ Cp a := by
    intro n cs h hn hc
    cases h with
    | lnil => exact ⟨List.eq_nil_of_length_eq_zero hn.symm, trivial⟩
    | lsle => exact ⟨List.eq_nil_of_length_eq_zero hn.symm, trivial⟩
    | sl h1 h2 h3 h4 h5 =>
      subst hc
      rw [List.length_map] at h3 h5
      subst hn
      exact ⟨⟨rfl, _, _, _, h2, h3, ints_rel h5⟩, h4⟩
    | slu h1 h2 h3 h4 h5 =>
      subst hc
      rw [List.length_map] at h3 h4 h5
      subst hn
      refine ⟨⟨?_, rfl, _, _, _, h2, h3, ints_rel h5⟩, trivial⟩
      rcases Nat.eq_zero_or_pos xs.length with h0 | h0
      · exact h4.2 h0
      · have := h4.1
        rename_i e _ _ _
        have h6 : xs.length * e = xs.length * 1 := by omega
        exact Nat.eq_of_mul_eq_mul_left h0 h6
  exact key h rfl rfl
theorem rel_mine {H H' : Heap} {W : Nat → Prop} {xs : List Int} {a : AV} (hw : ∀ b, W b → b < H.n) (h : Mine H H.n a xs H') : RelC H' W (pIs xs) a := by
  obtain ⟨h1, h2, b, zs, ⟨h3, h4, h5⟩, h6, h7⟩ := h
  have hW : ¬ W b := fun h => by have := hw b h; omega
  have hb : 0 + (xs.map pn).length ≤ (ints zs).length := by simp [ints_length]; exact h4
  have hr : All2 (RelC H' W) (xs.map pn) (((ints zs).drop 0).take (xs.map pn).length) := by
    rw [List.drop_zero, List.length_map, ints_take, h6]
    exact rel_ints xs
  rcases h5 with ⟨c, rfl, h8, h9⟩ | rfl
  · exact .sl hW h3 hb h8 hr
  · exact .slu hW h3 hb ⟨by simp, fun _ => rfl⟩ hr
theorem mine_kp {H H' : Heap} {xs : List Int} {a : AV} {c : Nat} (h : Mine H H.n a xs H') (hc : H'.n ≤ H.n + c) : KpH H H' c := ⟨h.n, hc, fun A hA => h.keep A hA (by omega)⟩
variable (S : FuncId → Option (List AV → Heap → Option (AV × Heap)))
theorem of_ct (hS : Old S) (h : S 78 = none) {n : Int} (hn : In64 n) : Ct (ctx.plus S) 78 [pn n] 12 fun r => r = pI n := by
  intro H W avs hw hr hl
  cases hr with
  | cons h1 hr =>
    cases hr
    cases h1
    refine (of_run2 S hS h hl hn).mono ?_
    rintro r H' ⟨hM, hm⟩
    exact ⟨_, rfl, rel_mine hw hM, mine_kp hM (by omega)⟩
structure Rw (xs : List Int) (X : Int) : Prop where
  in64 : ∀ e ∈ xs, In64 e
  len : xs.length ≤ 200
  val : val xs = X
  dl : (digits X).length ≤ 200
theorem Rw.of {X : Int} (h : (digits X).length ≤ 200) : Rw (digits X) X := ⟨fun e he => by have := (nrm_digits X).sml' e he; unfold In64; omega, h, val_digits X, h⟩
theorem Rw.one {c : Int} (h : -100000000 < c ∧ c < 100000000) : Rw [c] c := by
  have p1 : pw 1 = 100000000 := by decide
  have hl : (digits c).length ≤ 1 := len_of (k := 1) (by omega)
  refine ⟨fun e he => ?_, by simp, by simp [IM.val], by omega⟩
  simp at he
  subst he
  unfold In64; omega
theorem svb_rel {H : Heap} {W : Nat → Prop} {xs : List Int} {X : Int} {a : AV} (h : RelC H W (pIs xs) a) (hX : Rw xs X) : SVB H a xs X :=
  ⟨(sl_rel h).1, hX.in64, hX.len, hX.val, hX.dl⟩
theorem radd_ct (hR : OldR S) {xs ys : List Int} {X Y : Int} (hx : Rw xs X) (hy : Rw ys Y) : Ct (ctx.plus S) 75 [pIs xs, pIs ys] 100000 fun r => r = pI (X + Y) := by
  intro H W avs hw hr hl
  cases hr with
  | cons h1 hr => cases hr with
    | cons h2 hr =>
      cases hr
      refine (radd_runB S hR hl (svb_rel h1 hx) (svb_rel h2 hy)).mono ?_
      rintro r H' ⟨hM, hm⟩
      exact ⟨_, rfl, rel_mine hw hM, mine_kp hM (by omega)⟩
theorem rsub_ct (hR : OldR S) {xs ys : List Int} {X Y : Int} (hx : Rw xs X) (hy : Rw ys Y) : Ct (ctx.plus S) 90 [pIs xs, pIs ys] 200000 fun r => r = pI (X - Y) := by
  intro H W avs hw hr hl
  cases hr with
  | cons h1 hr => cases hr with
    | cons h2 hr =>
      cases hr
      refine (rsub_runB S hR hl (svb_rel h1 hx) (svb_rel h2 hy)).mono ?_
      rintro r H' ⟨hM, hm⟩
      exact ⟨_, rfl, rel_mine hw hM, mine_kp hM (by omega)⟩
theorem rneg_ct (hR : OldR S) {xs : List Int} {X : Int} (hx : Rw xs X) : Ct (ctx.plus S) 118 [pIs xs] 100000 fun r => r = pI (-X) := by
  intro H W avs hw hr hl
  cases hr with
  | cons h1 hr =>
    cases hr
    refine (rneg_runB S hR hl (svb_rel h1 hx)).mono ?_
    rintro r H' ⟨hM, hm⟩
    exact ⟨_, rfl, rel_mine hw hM, mine_kp hM (by omega)⟩
end Go.PI
/- slices of integers, which need not be in normal form -/
open Go.Proofs
namespace Go.PI
open IM
set_option maxRecDepth 10000
set_option maxHeartbeats 4000000
end Go.PI
/- trim, signed, size and Normal of the reference, with plain values. -/
open Go.Proofs
namespace Go.PI
open IM
set_option maxRecDepth 10000
set_option maxHeartbeats 4000000
variable (S : FuncId → Option (List AV → Heap → Option (AV × Heap)))
theorem rtrim_cm (h125 : S 125 = none) {xs : List Int} {σ : List StB} (hl : xs.length ≤ 1000000) : Cm (ctx.plus S) 125 [pIs xs] σ 3 fun r σ' => Wrt σ σ' r (trimL xs) := by
  refine cm_of Opn.no h125 fn125 fun c k0 hc => ?_
  refine ⟨fun m s => ∃ (i : Nat) (T : List PV), s = ⟨T, σ, k0⟩ ∧ Gt T 23 [(0, pIs xs), (3, pn i)] ∧ m = i ∧ i ≤ xs.length ∧ (∀ j, i ≤ j → j < xs.length → xs[j]? = some 0), ⟨xs.length, ?_⟩, ?_⟩
  · exact ci ⟨xs.length, _, rfl, ⟨rfl, rfl, rfl, trivial⟩, rfl, Nat.le_refl _, fun j h1 h2 => by omega⟩
  rintro m s ⟨i, T, rfl, hT, hm, hi, hz⟩
  obtain ⟨J, rfl⟩ := gt_open hT
  clear hT
  obtain ⟨x, hx⟩ : ∃ x, 0 < i → xs[i - 1]? = some x := by
    by_cases hp : 0 < i
    · exact ⟨xs[i - 1]'(by omega), fun _ => List.getElem?_eq_getElem _⟩
    · exact ⟨0, fun h => absurd h hp⟩
  refine ⟨fun hgt => ⟨⟨by omega, by omega⟩, ⟨⟨by omega, by omega⟩, len_map_le (by omega)⟩, _, ld (at_map (hx (by omega))) (by show _ * 1 = i - 1; omega), fun h0 => ?loop, fun h0 => ?_⟩, fun hle => ?_⟩
  case loop =>
    refine ⟨⟨by omega, by omega⟩, ?_⟩
    have e1 : (i : Int) - 1 = ((i - 1 : Nat) : Int) := by omega
    rw [e1]
    exact ⟨i - 1, by omega, ci ⟨i - 1, _, rfl, ⟨rfl, rfl, rfl, trivial⟩, rfl, by omega, fun j h1 h2 => by
      by_cases hj : j = i - 1
      · subst hj; rw [hx (by omega), h0]
      · exact hz j (by omega) h2⟩⟩
  all_goals
    have ht : i = 0 ∨ ∃ x, xs[i - 1]? = some x ∧ x ≠ 0 := by
      first
        | exact .inl (by omega)
        | exact .inr ⟨x, hx (by omega), h0⟩
    have hti : trimL xs = xs.take i := trim_is hi hz ht
    have hli : (xs.take i).length = i := by simp; omega
    rw [hti]
    refine ⟨by omega, part0 ⟨[], rfl, ?_⟩⟩
    refine ⟨by rw [List.length_map]; show _ = _ * 1; omega, ⟨by omega, by omega⟩, fun _ => rfl, (xs.take i).map pn, ?_, ?_⟩
    · rw [List.map_take]; show List.take ((_ - 0) * 1) (List.drop (0 * 1) _) = _; simp
    have hpn : pones ((xs.take i).map pn) = true := pones_pn _
    refine ⟨⟨by rw [List.length_map, hli]; show _ = (_ - 0) * 1; omega, ⟨by show ((i : Int)).toNat - 0 ≤ 2 ^ 30; omega, hpn⟩, by decide, fun h => ?_, fun h => ⟨by omega, 3, [], _, push_cont, by decide, rfl, ?_⟩⟩⟩
    · have h0 : i = 0 := by
        have : 0 + (((i : Int)).toNat - 0) ≤ 0 := h
        omega
      subst h0
      refine ⟨3, [], _, push_get, by simp, rfl, ?_⟩
      refine endm [] (by dsimp only; omega) ?_
      exact ⟨σ.length, .inl rfl, by rw [push_set, push_get]; rfl, Nat.le_refl _, fun i b hb => by rw [push_set, List.getElem?_append_left (List.getElem?_eq_some_iff.1 hb).1]; exact hb⟩
    · refine endm [] (by dsimp only; omega) ?_
      exact ⟨σ.length + 1, .inr (by rw [List.length_append, hli]; show PV.ownu _ (0 + (((i : Int)).toNat - 0)) 1 = _; rw [show 0 + (((i : Int)).toNat - 0) = i by omega]; rfl), push_at (by simp), Nat.le_succ _, fun i b hb => by
        rw [List.getElem?_append_left (by simp; have := (List.getElem?_eq_some_iff.1 hb).1; omega), List.getElem?_append_left (List.getElem?_eq_some_iff.1 hb).1]
        exact hb⟩
theorem rtrim_ct (h125 : S 125 = none) {xs : List Int} (hl : xs.length ≤ 1000000) : Ct (ctx.plus S) 125 [pIs xs] 3 fun r => r = pIs (trimL xs) := (rtrim_cm S h125 hl).ct fun _ _ h => h.fz
end Go.PI
/- signed, size and Normal of the reference, with plain values. -/
open Go.Proofs
namespace Go.PI
open IM
set_option maxRecDepth 10000
set_option maxHeartbeats 4000000
variable (S : FuncId → Option (List AV → Heap → Option (AV × Heap)))
def negs (xs : List Int) : List Int := xs.map fun x => 0 - x
theorem signed_ct (h126 : S 126 = none) (h125 : S 125 = none) {xs : List Int} {β : Bool} (hl : xs.length ≤ 1000000) (hr : ∀ e ∈ xs, In64 (0 - e)) :
    Ct (ctx.plus S) 126 [pIs xs, .bool β] 3 fun r => r = pIs (if β then negs (trimL xs) else trimL xs) := by
  refine ct_of h126 fn126 ?_
  refine callm (rtrim_cm S h125 hl) (by omega) ?_
  rintro r σ' ⟨j, hr1, hj, -, -⟩
  obtain ⟨ys, hys⟩ : ∃ ys, trimL xs = ys := ⟨_, rfl⟩
  have hrs : ∀ e ∈ ys, In64 (0 - e) := fun e he => hr e (trim_mem xs e (by rw [hys]; exact he))
  have hyl : ys.length ≤ 1000000 := Nat.le_trans (by rw [← hys]; exact (trim_take xs).2.2) hl
  rw [hys] at hr1 hj ⊢
  have hng : ∀ {i : Nat} {e : Int}, ys[i]? = some e → (negs (ys.take i) ++ ys.drop i)[i]? = some e ∧ pspl ((negs (ys.take i) ++ ys.drop i).map pn) i [pn (0 - e)] = (negs (ys.take (i + 1)) ++ ys.drop (i + 1)).map pn := fun {i e} he => by
    have hi := (List.getElem?_eq_some_iff.1 he).1
    have h1 : (negs (ys.take i)).length = i := by simp [negs]; omega
    refine ⟨by rw [List.getElem?_append_right (by omega), h1, Nat.sub_self, List.getElem?_drop]; exact he, ?_⟩
    rw [drop_of_get he, take_snoc he]
    unfold pspl
    rw [List.map_append, List.take_left' (by rw [List.length_map, h1]), List.drop_append, List.length_map, h1]
    simp [negs]
    omega
  refine ⟨fun m s => ∃ (i : Nat) (σ : List StB) (T : List PV), s = ⟨T, σ, 0 + 3⟩ ∧ Gt T 27 [(1, .bool β), (5, r), (6, pn i)] ∧ m = ys.length - i ∧ i ≤ ys.length ∧ (β = false → i = 0) ∧ σ[j]? = some (.live 3 ((negs (ys.take i) ++ ys.drop i).map pn)), ⟨ys.length, ?_⟩, ?_⟩
  · exact ci ⟨0, _, _, rfl, ⟨rfl, rfl, rfl, rfl, trivial⟩, rfl, Nat.zero_le _, fun _ => rfl, hj⟩
  clear hj
  rintro _ s ⟨i, σ, T, rfl, hT, rfl, hi, hβ, hj⟩
  obtain ⟨J, rfl⟩ := gt_open hT
  clear hT
  have hlen : ((negs (ys.take i) ++ ys.drop i).map pn).length = ys.length := by simp [negs]; omega
  have fin : (β = false ∨ i = ys.length) → (negs (ys.take i) ++ ys.drop i) = if β then negs ys else ys := fun h => by
    cases β with
    | false => rw [hβ rfl]; rfl
    | true =>
      have : i = ys.length := h.resolve_left (by simp)
      rw [this, List.take_length, List.drop_length, List.append_nil]
      rfl
  have hfz : (β = false ∨ i = ys.length) → ∀ v, (v = r) → EndK σ v fun r => r = pIs (if β then negs ys else ys) := fun h v hv => by
    have hl2 : (if β then negs ys else ys).length = ys.length := by split <;> simp [negs]
    have hq : PV.lst ys.length ((negs (ys.take i) ++ ys.drop i).map pn) = pIs (if β then negs ys else ys) := by rw [fin h, pIs, hl2]
    rcases hr1 with rfl | rfl
    · subst hv
      exact ⟨⟨[], 3, _, _, contOf_live hj, ⟨by rw [hlen]; omega, Nat.le_refl _⟩, by rw [List.drop_zero, List.take_of_length_le (by rw [hlen]; omega)], hq⟩⟩
    · subst hv
      exact ⟨⟨[], 3, _, _, contOf_live hj, ⟨by rw [hlen]; omega, fun _ => rfl⟩, by rw [List.take_of_length_le (by rw [hlen]; omega)], hq⟩⟩
  rcases hr1 with rfl | rfl
  all_goals
    cases β with
    | false =>
      refine ⟨fun hlt => ?_, fun hge => ?_⟩
      all_goals exact hfz (.inl rfl) _ rfl
    | true =>
      refine ⟨fun hlt => ?_, fun hge => ?_⟩
      · obtain ⟨e, he⟩ : ∃ e, ys[i]? = some e := ⟨ys[i]'(by omega), List.getElem?_eq_getElem _⟩
        obtain ⟨q1, q2⟩ := hng he
        refine ⟨⟨by omega, by omega⟩, pn e, load_k rfl rfl (contOf_live hj) (at_map q1) (by show 0 + (_ : Int).toNat * 1 = i; omega), hrs e (List.mem_of_getElem? he), ⟨by omega, by omega⟩, ?_⟩
        refine ⟨_, _, hj, ⟨rfl, by rw [hlen]; show 0 + (_ : Int).toNat * 1 + 1 ≤ _; omega, rfl⟩, (negs (ys.take (i + 1)) ++ ys.drop (i + 1)).map pn, (by rw [show 0 + ((i : Int)).toNat * t3.size = i by show 0 + ((i : Int)).toNat * 1 = i; omega]; exact q2), _, rfl, ?_⟩
        refine ⟨⟨by omega, by omega⟩, ?_⟩
        refine ⟨ys.length - (i + 1), by omega, ci ⟨i + 1, _, _, rfl, ⟨rfl, rfl, rfl, rfl, trivial⟩, rfl, by omega, (fun h => by cases h), ?_⟩⟩
        rw [List.getElem?_set_self (List.getElem?_eq_some_iff.1 hj).1]
      · exact hfz (.inr (by omega)) _ rfl
theorem rngv_ct (h143 : S 143 = none) {X : Int} (hl : (digits X).length ≤ 1000000) : Ct (ctx.plus S) 143 [pI X] 0 fun r => r = .bool (decide (X < 0)) := by
  intro H W avs hw hr hn
  cases hr with
  | cons h1 hr =>
    cases hr
    refine (rnegative_run S h143 (sl_rel h1).1 hl (nrm_digits X)).mono ?_
    rintro _ _ ⟨rfl, rfl⟩
    rw [val_digits]
    exact ⟨_, rfl, .bool _, KpH.refl _ _⟩
theorem rsize_ct (hR : OldR S) {X : Int} (hl : (digits X).length ≤ 1000000) : Ct (ctx.plus S) 142 [pI X] 5 fun r => r = pI X.natAbs := by
  refine ct_of hR.h142 fn142 ?_
  refine callq rfl (rngv_ct S hR.h143 hl) (by omega) ?_
  rintro _ rfl
  have hs := (nrm_digits X).sml'
  refine callq rfl (signed_ct S hR.h126 hR.h125 hl fun e he => by have := hs e he; unfold In64; omega) (by omega) ?_
  rintro _ rfl
  refine endq rfl ?_
  rw [trim_of_top (nrm_digits X).2]
  have e1 := negd X
  rcases Decidable.em (X < 0) with h | h
  · rw [decide_eq_true h, if_pos rfl]
    show pIs (negs (digits X)) = pIs (digits _)
    congr 1
    rw [show (X.natAbs : Int) = -X by omega, ← e1]
    unfold negs
    apply List.map_congr_left
    intro a _
    omega
  · rw [decide_eq_false h]
    show pIs (digits X) = pIs (digits _)
    rw [show (X.natAbs : Int) = X by omega]
theorem rnorm_ct (hR : OldR S) {xs : List Int} {X : Int} (hx : Rw xs X) : Ct (ctx.plus S) 82 [pIs xs] 1000 fun r => r = pI X := by
  intro H W avs hw hr hn
  have hl := hx.len
  cases hr with
  | cons h1 hr =>
    cases hr
    refine (rnormal_run S hR.h82 hR.h124 hR.h125 hR.h126 (by omega) (sl_rel h1).1 (by omega) hx.in64).mono ?_
    rw [hx.val]
    rintro r H' ⟨hM, hm⟩
    exact ⟨_, rfl, rel_mine hw hM, mine_kp hM (by omega)⟩
theorem less_ct (hR : OldR S) {X Y : Int} (hX : 0 ≤ X) (hY : 0 ≤ Y) (lx : (digits X).length ≤ 1000) (ly : (digits Y).length ≤ 1000) : Ct (ctx.plus S) 168 [pI X, pI Y] 0 fun r => r = .bool (decide (X < Y)) := by
  intro H W avs hw hr hn
  cases hr with
  | cons h1 hr => cases hr with
    | cons h2 hr =>
      cases hr
      refine (less_run S hR (sl_rel h1).1 (sl_rel h2).1 lx ly (dig_digits hX) (dig_digits hY) (nrm_digits X).2 (nrm_digits Y).2).mono ?_
      rw [val_digits, val_digits]
      rintro _ _ ⟨rfl, rfl⟩
      exact ⟨_, rfl, .bool _, KpH.refl _ _⟩
theorem rmuls_ct (hR : OldR S) {xs ys : List Int} {X Y : Int} (hx : Rw xs X) (hy : Rw ys Y) (lx : xs.length ≤ 20) (ly : ys.length ≤ 20) (lxy : (digits X).length + (digits Y).length ≤ 20) : Ct (ctx.plus S) 62 [pIs xs, pIs ys] 20000 fun r => r = pI (X * Y) := by
  intro H W avs hw hr hl
  cases hr with
  | cons h1 hr => cases hr with
    | cons h2 hr =>
      cases hr
      refine (rmul_run S hR hl ⟨(sl_rel h1).1, hx.in64, lx, hx.val, by omega⟩ ⟨(sl_rel h2).1, hy.in64, ly, hy.val, by omega⟩ lxy).mono ?_
      rintro r H' ⟨hM, hm⟩
      exact ⟨_, rfl, rel_mine hw hM, mine_kp hM (by omega)⟩
end Go.PI
/- quotient, compare, Clone, with plain values. -/
open Go.Proofs
namespace Go.PI
open IM
set_option maxRecDepth 10000
set_option maxHeartbeats 4000000
variable (S : FuncId → Option (List AV → Heap → Option (AV × Heap)))
end Go.PI
/- leading, mixed. -/
open Go.Proofs
namespace Go.PI
open IM
set_option maxRecDepth 10000
set_option maxHeartbeats 4000000
variable (S : FuncId → Option (List AV → Heap → Option (AV × Heap)))
end Go.PI
/- euclid. -/
open Go.Proofs
namespace Go.PI
open IM
set_option maxRecDepth 10000
set_option maxHeartbeats 4000000
variable (S : FuncId → Option (List AV → Heap → Option (AV × Heap)))
structure Euc (X Y a b c d : Int) : Prop where
  lt : 0 ≤ c * X + d * Y ∧ c * X + d * Y < a * X + b * Y
  le : a * X + b * Y ≤ X
  half : 2 * ((a * X + b * Y) * (c * X + d * Y)) ≤ X * Y
  g : ∀ k : Int, (k ∣ a * X + b * Y ∧ k ∣ c * X + d * Y) ↔ (k ∣ X ∧ k ∣ Y)
  ha : -100000000 ≤ a ∧ a ≤ 100000000
  hb : -100000000 ≤ b ∧ b ≤ 100000000
  hc : -100000000 ≤ c ∧ c ≤ 100000000
  hd : -100000000 ≤ d ∧ d ≤ 100000000
end Go.PI
/- gcd: what is said of integers. -/
open Go.Proofs
namespace Go.PI
open IM
set_option maxRecDepth 10000
set_option maxHeartbeats 4000000
variable (S : FuncId → Option (List AV → Heap → Option (AV × Heap)))
end Go.PI
/- gcd and divide of the program, with plain values. -/
open Go.Proofs
namespace Go.PI
open IM
set_option maxRecDepth 10000
set_option maxHeartbeats 4000000
variable (S : FuncId → Option (List AV → Heap → Option (AV × Heap)))
end Go.PI
