/- Own work of the verifier: CiQuot. -/
import Derived.Test.YtdflpkkgjppmgaaGreatCfBD
set_option linter.all false
set_option exponentiation.threshold 3000
set_option linter.deprecated false
/- quotient. -/
open Go.Proofs
namespace Go.PI
open IM
set_option maxRecDepth 10000
set_option maxHeartbeats 4000000
variable (S : FuncId → Option (List AV → Heap → Option (AV × Heap)))
structure OldI (S : FuncId → Option (List AV → Heap → Option (AV × Heap))) : Prop where
  o : Old S
  h78 : S 78 = none
  h153 : S 153 = none
  h188 : S 188 = none
  h192 : S 192 = none
  h164 : S 164 = none
  h152 : S 152 = none
  h154 : S 154 = none
  h165 : S 165 = none
  h166 : S 166 = none
  h193 : S 193 = none
  h182 : S 182 = none
  h203 : S 203 = none
  h204 : S 204 = none
  h187 : S 187 = none
  h189 : S 189 = none
  h190 : S 190 = none
  h191 : S 191 = none
  h201 : S 201 = none
  h210 : S 210 = none
  h205 : S 205 = none
  h206 : S 206 = none
  h207 : S 207 = none
  h208 : S 208 = none
  h211 : S 211 = none
theorem small_in {xs : List Int} (h : Sml xs) (hl : xs.length ≤ 2) : ∀ k, In64 (val (xs.drop k)) ∧ In64 (100000000 * val (xs.drop (k + 1))) := by
  have b0 : In64 0 := by unfold In64; omega
  match xs, hl with
  | [], _ => intro k; simp [val, b0]
  | [x], _ =>
    have hx := h x (by simp)
    intro k
    cases k with
    | zero => simp [val]; exact ⟨by unfold In64; omega, b0⟩
    | succ k => simp [val, b0]
  | [x, y], _ =>
    have hx := h x (by simp)
    have hy := h y (by simp)
    intro k
    match k with
    | 0 => simp [val]; exact ⟨by unfold In64; omega, by unfold In64; omega⟩
    | 1 => simp [val]; exact ⟨by unfold In64; omega, b0⟩
    | k + 2 => simp [val, b0]
theorem IM.Dig.sml {xs : List Int} (h : Dig xs) : Sml xs := fun x hx => by have := h x hx; omega
theorem Mine.toSl {H H' : Heap} {v : AV} {xs : List Int} (h : Mine H H.n v xs H') : Sl H' v xs := h.sl
theorem slice_off {C : Ctx} (hT : C.ty = tget) {ρ : Operand → Option AV} {x y z : Operand} {b o l cap j k : Nat} (hx : ρ x = some (.sl b o l cap)) (hy : ρ y = some (iv j)) (hz : ρ z = some (iv (j + k : Nat))) (hk : j + k ≤ cap) (hj : j < cap) :
    pureE C ρ (.slice 22 x (some y) (some z) none) = some (.sl b (o + j) k (cap - j)) := by
  have h1 : (0 : Int) ≤ ((j + k : Nat) : Int) ∧ ((j + k : Nat) : Int) ≤ (cap : Int) := by omega
  have h2 : (0 : Int) ≤ (j : Int) ∧ (j : Int) ≤ ((j + k : Nat) : Int) := by omega
  have h3 : ¬ cap = j := by omega
  simp only [pureE, hx, hy, hz, ty22 hT, t22, ty3 hT, bound, h1, and_self, if_true, Int.toNat_natCast, h2]
  simp [t3, h3]
theorem split2 {l : List Int} {k : Nat} (h : l.length = k + 2) : ∃ lv v2 v1, l = lv ++ [v2, v1] ∧ lv.length = k := by
  obtain ⟨a, ha⟩ : ∃ a, l[k]? = some a := ⟨l[k]'(by omega), List.getElem?_eq_getElem _⟩
  obtain ⟨b, hb⟩ : ∃ a, l[k + 1]? = some a := ⟨l[k + 1]'(by omega), List.getElem?_eq_getElem _⟩
  refine ⟨l.take k, a, b, ?_, by simp; omega⟩
  have e1 := take_snoc ha
  have e2 := take_snoc hb
  rw [List.take_of_length_le (by omega), e1] at e2
  exact e2.trans (by simp)
theorem split3 {l : List Int} {k : Nat} (h : l.length = k + 3) : ∃ lo u2 u1 u0, l = (lo ++ [u2, u1]) ++ [u0] ∧ lo.length = k := by
  obtain ⟨c, hc⟩ : ∃ a, l[k + 2]? = some a := ⟨l[k + 2]'(by omega), List.getElem?_eq_getElem _⟩
  have e := take_snoc hc
  rw [List.take_of_length_le (by omega)] at e
  obtain ⟨lo, u2, u1, h1, h2⟩ := split2 (l := l.take (k + 2)) (k := k) (by simp; omega)
  exact ⟨lo, u2, u1, c, e.trans (by rw [h1]), h2⟩
theorem quotient_small (hS : OldI S) {H : Heap} {x y : AV} {xs ys : List Int} (hn : H.n + 100 < lim) (hx : Sl H x xs) (hy : Sl H y ys) (hxl : xs.length ≤ 2) (hyl : ys.length ≤ 2) (dx : Dig xs) (dy : Dig ys) (hy0 : 0 < val ys) :
    Cl (ctx.plus S) 191 [x, y] H fun r H' => ∃ q w, r = .tup [q, w] ∧ Nw H q (digits (val xs / val ys)) H' ∧ Nw H w (digits (val xs % val ys)) H' ∧ Kp H H' 60 := by
  refine cl_of hS.h191 fn191 ?_
  have hT : (ctx.plus S).ty = tget := rfl
  refine ⟨_, len_sl hT (v := x) rfl hx, ?_⟩
  refine ⟨fun h1 => ?_, fun h1 => absurd h1 (by omega)⟩
  refine ⟨_, len_sl hT (v := y) rfl hy, ?_⟩
  refine ⟨fun h2 => ?_, fun h2 => absurd h2 (by omega)⟩
  refine (vsmall_run S hS.h192 hS.h204 hS.h210 (x := x) (by omega) hx (by omega) (small_in dx.sml hxl)).mono ?_
  rintro _ H1 ⟨rfl, k1⟩
  have k1m := k1.m
  refine (vsmall_run S hS.h192 hS.h204 hS.h210 (H := H1) (x := y) (by omega) (hy.kp k1) (by omega) (small_in dy.sml hyl)).mono ?_
  rintro _ H2 ⟨rfl, k2⟩
  have k2m := k2.m
  have bx : 0 ≤ val xs ∧ val xs < 10000000000000000 := by
    have h1 := dx.val
    have h2 := pw_mono hxl
    have : pw 2 = 10000000000000000 := by decide
    omega
  obtain ⟨q1, q2, q3, q4, q5, q6⟩ := qr (m := val xs) (d := val ys) bx.1 hy0
  have hq7 : val xs / val ys ≤ val xs := Int.ediv_le_self _ bx.1
  have by' : val ys < 10000000000000000 := by
    have h1 := dy.val
    have h2 := pw_mono hyl
    have : pw 2 = 10000000000000000 := by decide
    omega
  refine ⟨⟨by omega, by rw [q1]; unfold In64; omega⟩, ?_⟩
  refine (of_run2 S hS.o hS.h78 (H := H2) (n := (val xs).tdiv (val ys)) (by omega) (by rw [q1]; unfold In64; omega)).mono ?_
  rintro r1 H3 ⟨hM1, hn3⟩
  have k3 := hM1.kp hn3
  have k3m := k3.m
  refine ⟨by omega, ?_⟩
  refine (of_run2 S hS.o hS.h78 (H := H3) (n := (val xs).tmod (val ys)) (by omega) (by rw [q2]; unfold In64; omega)).mono ?_
  rintro r2 H4 ⟨hM2, hn4⟩
  have k4 := hM2.kp hn4
  refine ⟨draw_of2 H2 0 (by kernel_rfl) rfl ?_ ?_ ?_, ?_⟩
  · repeat' (first | exact trivial | refine ⟨trivial, ?_⟩)
  · repeat' (first | exact trivial | refine ⟨fun _ _ => rfl, ?_⟩ | refine ⟨trivial, ?_⟩)
  · repeat' (first | exact trivial | refine ⟨Nat.le_refl _, ?_⟩ | refine ⟨k3.n, ?_⟩ | refine ⟨k4.n, ?_⟩)
  rw [q1] at hM1
  rw [q2] at hM2
  have k12 := k1.trans k2 (Nat.le_refl _)
  exact ⟨r1, r2, rfl, .inr (hM1.lift k12 k4), .inr (hM2.lift (k12.trans k3 (Nat.le_refl _)) (Kp.refl _ _ : Kp H4 H4 0)), k1.trans (k2.trans (k3.trans k4 (Nat.le_refl _)) (Nat.le_refl _)) (by omega)⟩
theorem expand (T : List AV) : T = (List.range T.length).map fun i => T.getD i undefA := by
  apply List.ext_getElem
  · simp
  · intro i h1 h2
    simp [List.getD_eq_getElem?_getD, List.getElem?_eq_getElem h1]
theorem ex113 (T : List AV) (h : T.length = 113) : T = [T.getD 0 undefA, T.getD 1 undefA, T.getD 2 undefA, T.getD 3 undefA, T.getD 4 undefA, T.getD 5 undefA, T.getD 6 undefA, T.getD 7 undefA, T.getD 8 undefA, T.getD 9 undefA, T.getD 10 undefA, T.getD 11 undefA, T.getD 12 undefA, T.getD 13 undefA, T.getD 14 undefA, T.getD 15 undefA, T.getD 16 undefA, T.getD 17 undefA, T.getD 18 undefA, T.getD 19 undefA, T.getD 20 undefA, T.getD 21 undefA, T.getD 22 undefA, T.getD 23 undefA, T.getD 24 undefA, T.getD 25 undefA, T.getD 26 undefA, T.getD 27 undefA, T.getD 28 undefA, T.getD 29 undefA, T.getD 30 undefA, T.getD 31 undefA, T.getD 32 undefA, T.getD 33 undefA, T.getD 34 undefA, T.getD 35 undefA, T.getD 36 undefA, T.getD 37 undefA, T.getD 38 undefA, T.getD 39 undefA, T.getD 40 undefA, T.getD 41 undefA, T.getD 42 undefA, T.getD 43 undefA, T.getD 44 undefA, T.getD 45 undefA, T.getD 46 undefA, T.getD 47 undefA, T.getD 48 undefA, T.getD 49 undefA, T.getD 50 undefA, T.getD 51 undefA, T.getD 52 undefA, T.getD 53 undefA, T.getD 54 undefA, T.getD 55 undefA, T.getD 56 undefA, T.getD 57 undefA, T.getD 58 undefA, T.getD 59 undefA, T.getD 60 undefA, T.getD 61 undefA, T.getD 62 undefA, T.getD 63 undefA, T.getD 64 undefA, T.getD 65 undefA, T.getD 66 undefA, T.getD 67 undefA, T.getD 68 undefA, T.getD 69 undefA, T.getD 70 undefA, T.getD 71 undefA, T.getD 72 undefA, T.getD 73 undefA, T.getD 74 undefA, T.getD 75 undefA, T.getD 76 undefA, T.getD 77 undefA, T.getD 78 undefA, T.getD 79 undefA, T.getD 80 undefA, T.getD 81 undefA, T.getD 82 undefA, T.getD 83 undefA, T.getD 84 undefA, T.getD 85 undefA, T.getD 86 undefA, T.getD 87 undefA, T.getD 88 undefA, T.getD 89 undefA, T.getD 90 undefA, T.getD 91 undefA, T.getD 92 undefA, T.getD 93 undefA, T.getD 94 undefA, T.getD 95 undefA, T.getD 96 undefA, T.getD 97 undefA, T.getD 98 undefA, T.getD 99 undefA, T.getD 100 undefA, T.getD 101 undefA, T.getD 102 undefA, T.getD 103 undefA, T.getD 104 undefA, T.getD 105 undefA, T.getD 106 undefA, T.getD 107 undefA, T.getD 108 undefA, T.getD 109 undefA, T.getD 110 undefA, T.getD 111 undefA, T.getD 112 undefA] := by
  have := expand T
  rw [h] at this
  exact this
theorem quotient_main (hS : OldI S) {H : Heap} {x y : AV} {xs ys : List Int} (hn : H.n + 100 < lim) (hx : Sl H x xs) (hy : Sl H y ys) (hxl : xs.length ≤ 999980) (hyx : ys.length ≤ xs.length) (hyl : 2 ≤ ys.length) (hx2 : 2 < xs.length) (dx : Dig xs) (dy : Dig ys) (ty : Top ys) :
    Cl (ctx.plus S) 191 [x, y] H fun r H' => ∃ q w, r = .tup [q, w] ∧ Nw H q (digits (val xs / val ys)) H' ∧ Nw H w (digits (val xs % val ys)) H' ∧ Kp H H' 60 := by
  refine cl_of hS.h191 fn191 ?_
  have hT : (ctx.plus S).ty = tget := rfl
  refine ⟨_, len_sl hT (v := x) rfl hx, ?_⟩
  refine ⟨fun h1 => absurd h1 (by omega), fun _ => ?_⟩
  refine ⟨_, len_sl hT (v := x) rfl hx, ?_⟩
  refine ⟨_, len_sl hT (v := y) rfl hy, ?_⟩
  refine ⟨fun h1 => absurd h1 (by omega), fun _ => ?_⟩
  refine ⟨_, len_sl hT (v := y) rfl hy, ?_⟩
  refine ⟨fun h1 => absurd h1 (by omega), fun _ => ?_⟩
  obtain ⟨ys', t, rfl, ht0⟩ : ∃ ys' t, ys = ys' ++ [t] ∧ t ≠ 0 := by
    rcases ty with rfl | h
    · simp at hyl
    · exact h
  obtain ⟨n, hnn⟩ : ∃ n, (ys' ++ [t]).length = n + 1 := ⟨ys'.length, by simp⟩
  have hn' : ys'.length = n := by simp at hnn; exact hnn
  obtain ⟨m, hm⟩ : ∃ m, xs.length = m := ⟨_, rfl⟩
  rw [hnn] at hyx hyl
  rw [hm] at hyx hxl hx2
  have htB := dy t (by simp)
  have gt : (ys' ++ [t])[n]? = some t := by rw [List.getElem?_append_right (by omega)]; simp [hn']
  refine ⟨_, len_sl hT (v := y) rfl hy, ?_⟩
  rw [hnn]
  refine ⟨⟨by omega, by omega⟩, ?_⟩
  refine ⟨_, idx_sl hT (v := y) (n := ((n + 1 : Nat) : Int) - 1) (k := n) rfl rfl hy (by omega) (by omega), ?_⟩
  refine ⟨_, load_sl hT hy gt, ?_⟩
  refine ⟨⟨by omega, by omega⟩, ?_⟩
  obtain ⟨f, hf⟩ : ∃ f, (100000000 : Int).tdiv (t + 1) = f := ⟨_, rfl⟩
  have hf' : f = 100000000 / (t + 1) := by rw [← hf]; exact (qr (m := 100000000) (d := t + 1) (by omega) (by omega)).1
  obtain ⟨f1, f2, f3, f4⟩ := factor (t := t) (by omega) hf'
  refine ⟨⟨by omega, by rw [hf]; unfold In64; omega⟩, ?_⟩
  have hX := dx.val
  have hY := dy.val
  have hY1 := val_top (t := t) (ys := ys') (fun z hz => dy z (by simp [hz]))
  rw [hm] at hX
  rw [hnn] at hY
  rw [hn'] at hY1
  have hPn := pw_pos n
  have hPm := pw_pos m
  have hfX : f * val xs < pw (xs.length + 1) := by
    rw [hm, pw_succ]
    have a1 : f * val xs ≤ 50000000 * val xs := Int.mul_le_mul_of_nonneg_right (by omega) hX.1
    omega
  have hfY : f * val (ys' ++ [t]) < pw ((ys' ++ [t]).length + 0) := by
    rw [hnn]
    show _ < pw (n + 1)
    rw [pw_succ]
    have a1 : f * (val (ys' ++ [t]) + 1) ≤ f * (pw n * (t + 1)) := Int.mul_le_mul_of_nonneg_left (by omega) (by omega)
    have a2 : f * (pw n * (t + 1)) = pw n * (f * (t + 1)) := by grind
    have a3 : pw n * (f * (t + 1)) ≤ pw n * 100000000 := Int.mul_le_mul_of_nonneg_left f3 (by omega)
    rw [Int.mul_add] at a1
    omega
  have hfYl : 50000000 * pw n ≤ f * val (ys' ++ [t]) := by
    have a1 : f * (pw n * t) ≤ f * val (ys' ++ [t]) := Int.mul_le_mul_of_nonneg_left hY1.1 (by omega)
    have a2 : f * (pw n * t) = pw n * (f * t) := by grind
    have a3 : pw n * 50000000 ≤ pw n * (f * t) := Int.mul_le_mul_of_nonneg_left f4 (by omega)
    omega
  have st1 := stretched_run S hS.h207 hS.o.h155 (H := H) (x := x) (xs := xs) (f := f) (more := 1) (by omega) hx (by omega) (by omega) dx ⟨f1, by omega⟩ hfX
  rw [← hf] at st1
  refine st1.mono ?_
  rw [hf]
  rintro _ H1 ⟨U0, rfl, hu1, hu2, hu3, hu4, hu5, hu6⟩
  have st2 := stretched_run S hS.h207 hS.o.h155 (H := H1) (x := y) (xs := ys' ++ [t]) (f := f) (more := 0) (by omega) (hy.mono hu6) (by omega) (by omega) dy ⟨f1, by omega⟩ hfY
  refine st2.mono ?_
  rintro _ H2 ⟨VL, rfl, hv1, hv2, hv3, hv4, hv5, hv6⟩
  rw [hu5] at hv1 hv5 hv6 ⊢
  rw [hm] at hu2 hfX ⊢
  rw [hnn] at hv2 hfY ⊢
  have hV0 : Sl H2 (.sl (H.n + 1) 0 (n + 1) (n + 1)) VL := ⟨hv2.symm, true, 3, ints VL, hv1, by rw [ints_length]; omega, by rw [List.drop_zero, List.take_of_length_le (by rw [ints_length]; omega)]⟩
  refine ⟨_, len_sl hT (v := .sl (H.n + 1) 0 (n + 1) (n + 1)) rfl hV0, ?_⟩
  rw [hv2]
  refine ⟨_, len_sl hT (v := x) rfl hx, ?_⟩
  rw [hm]
  refine ⟨⟨by omega, by omega⟩, ?_⟩
  refine ⟨⟨by omega, by omega⟩, ?_⟩
  obtain ⟨K, hK⟩ : ∃ K : Nat, (m : Int) - ((n + 1 + 0 : Nat) : Int) + 1 = (K : Int) := ⟨m - n, by omega⟩
  rw [hK]
  refine ⟨by omega, ⟨by omega, by omega, by omega⟩, ?_⟩
  rw [show ((K : Int)).toNat = K by omega, show (List.replicate K t3.zero.cells).flatten = ints (List.replicate K 0) from ints_zeros _]
  have hp := Heap.get_push (H := H2) (b := .cells true 3 (ints (List.replicate K 0))) (by omega)
  have hpn : (H2.push (.cells true 3 (ints (List.replicate K 0)))).n = H.n + 3 := by show H2.n + 1 = _; omega
  rw [hv5] at hp ⊢
  generalize H2.push (.cells true 3 (ints (List.replicate K 0))) = H3 at hp hpn ⊢
  have k3 : ∀ A, A < H.n → H3.get A = H.get A := fun A hA => by rw [hp, if_neg (by omega), hv6 A (by omega)]; exact hu6 A hA
  have b0 : H3.get H.n = .cells true 3 (ints U0) := by rw [hp, if_neg (by omega), hv6 _ (by omega)]; exact hu1
  have b1 : H3.get (H.n + 1) = .cells true 3 (ints VL) := by rw [hp, if_neg (by omega)]; exact hv1
  have b2 : H3.get (H.n + 2) = .cells true 3 (ints (List.replicate K 0)) := by rw [hp, if_pos rfl]
  refine ⟨_, len_sl hT (v := x) rfl hx, ?_⟩
  rw [hm]
  refine ⟨⟨by omega, by omega⟩, ?_⟩
  have hn1 : n + 1 + 0 = n + 1 := rfl
  obtain ⟨N, hN⟩ : ∃ N, n + 1 = N + 2 := ⟨n - 1, by omega⟩
  obtain ⟨lv, v2, v1, hVL, hlv⟩ := split2 (l := VL) (k := N) (by omega)
  have dV := hv3
  have hVv := hv3.val
  rw [hv2] at hVv
  have hv1B : 50000000 ≤ v1 := by
    have e1 : val VL = val (lv ++ [v2]) + pw (N + 1) * v1 := by rw [hVL, show lv ++ [v2, v1] = (lv ++ [v2]) ++ [v1] by simp, val_snoc]; simp [hlv]
    have e2 := (Dig.val (xs := lv ++ [v2]) (fun z hz => dV z (by rw [hVL]; simp at hz ⊢; rcases hz with h | h <;> simp [h]))).2
    rw [show (lv ++ [v2]).length = N + 1 by simp [hlv]] at e2
    rw [show N + 1 = n by omega] at e1 e2
    rcases ilt_or v1 50000000 with h | h
    · exfalso
      have := Int.mul_le_mul_of_nonneg_left (show v1 + 1 ≤ 50000000 by omega) (show 0 ≤ pw n by omega)
      rw [Int.mul_add] at this
      omega
    · exact h
  have hKm : K + n = m := by omega
  have hU0s : U0 = U0.take K ++ U0.drop K := (List.take_append_drop K U0).symm
  have dU0 := hu3
  have dA0 : Dig (U0.take K) := fun z hz => dU0 z (List.mem_of_mem_take hz)
  have dR0 : Dig (U0.drop K) := fun z hz => dU0 z (List.mem_of_mem_drop hz)
  have hA0l : (U0.take K).length = K := by simp; omega
  have hR0l : (U0.drop K).length = n + 1 := by simp; omega
  have hval0 : val U0 = val (U0.take K) + pw K * val (U0.drop K) := by
    conv => lhs; rw [hU0s, val_append, hA0l]
  have hR0 : val (U0.drop K) < val VL := by
    rcases ilt_or (val (U0.drop K)) (val VL) with h | h
    · exact h
    · exfalso
      have a1 : pw K * val VL ≤ pw K * val (U0.drop K) := Int.mul_le_mul_of_nonneg_left h (by have := pw_pos K; omega)
      have a2 := dA0.val.1
      have a3 : pw K * (pw n * t) ≤ pw K * val (ys' ++ [t]) := Int.mul_le_mul_of_nonneg_left hY1.1 (by have := pw_pos K; omega)
      have a4 : pw K * (pw n * t) = pw m * t := by rw [← Int.mul_assoc, ← pw_add, hKm]
      have a5 : pw m * 1 ≤ pw m * t := Int.mul_le_mul_of_nonneg_left (by omega) (by omega)
      have a6 : f * val xs < f * (pw K * val (ys' ++ [t])) := Int.mul_lt_mul_of_pos_left (by omega) (by omega)
      have a7 : f * (pw K * val (ys' ++ [t])) = pw K * (f * val (ys' ++ [t])) := by grind
      rw [← hv4] at a7
      omega
  refine ⟨fun mm s => ∃ (k : Nat) (j : Int) (A R Qs Zs : List Int) (H' : Heap) (T : List AV),
    s = ⟨T, H', []⟩ ∧ T.length = 113 ∧ T.getD 0 undefA = x ∧ T.getD 1 undefA = y ∧ T.getD 4 undefA = .sl (H.n + 2) 0 K K ∧ T.getD 10 undefA = iv f ∧ T.getD 11 undefA = .sl H.n 0 (m + 1) (m + 1) ∧ T.getD 12 undefA = .sl (H.n + 1) 0 (n + 1) (n + 1) ∧ T.getD 13 undefA = iv ((n + 1 + 0 : Nat) : Int) ∧ T.getD 14 undefA = iv j ∧ mm = k ∧ j = (k : Int) - 1 ∧ k ≤ K ∧
      A.length = k ∧ R.length = n + 1 ∧ Dig A ∧ Dig R ∧ Dig Qs ∧ Qs.length + k = K ∧ (A ++ (R ++ Zs)).length = m + 1 ∧ val R < val VL ∧ val U0 = val A + pw k * (val R + val VL * val Qs) ∧
      H'.n = H.n + 3 ∧ (∀ A, A < H.n → H'.get A = H.get A) ∧ H'.get H.n = .cells true 3 (ints (A ++ (R ++ Zs))) ∧ H'.get (H.n + 1) = .cells true 3 (ints VL) ∧ H'.get (H.n + 2) = .cells true 3 (ints (List.replicate k 0 ++ Qs)), ⟨K, ?_⟩, ?_⟩
  · refine ⟨K, _, U0.take K, U0.drop K, [], [], H3, _, rfl, rfl, rfl, rfl, rfl, rfl, rfl, rfl, rfl, rfl, rfl, by omega, Nat.le_refl _, hA0l, hR0l, dA0, dR0, fun _ h => (List.not_mem_nil h).elim, by simp, by simp; omega, hR0, ?_, by omega, k3, ?_, b1, ?_⟩
    · rw [hval0]; simp [val]
    · rw [List.append_nil, List.take_append_drop]; exact b0
    · rw [List.append_nil]; exact b2
  · rintro mm s ⟨k, j, A, R, Qs, Zs, H', T, rfl, hTl, h0t, h1t, h4t, h10t, h11t, h12t, h13t, h14t, hmm, hj, hk, hA, hR, dA, dR, dQ, hQ, hZ, hRV, hval, hn3, c0, c1, c2, c3⟩
    obtain ⟨J, rfl⟩ : ∃ J : Nat → AV, T = [x, y, J 2, J 3, .sl (H.n + 2) 0 K K, J 5, J 6, J 7, J 8, J 9, iv f, .sl H.n 0 (m + 1) (m + 1), .sl (H.n + 1) 0 (n + 1) (n + 1), iv ((n + 1 + 0 : Nat) : Int), iv j, J 15, J 16, J 17, J 18, J 19, J 20, J 21, J 22, J 23, J 24, J 25, J 26, J 27, J 28, J 29, J 30, J 31, J 32, J 33, J 34, J 35, J 36, J 37, J 38, J 39, J 40, J 41, J 42, J 43, J 44, J 45, J 46, J 47, J 48, J 49, J 50, J 51, J 52, J 53, J 54, J 55, J 56, J 57, J 58, J 59, J 60, J 61, J 62, J 63, J 64, J 65, J 66, J 67, J 68, J 69, J 70, J 71, J 72, J 73, J 74, J 75, J 76, J 77, J 78, J 79, J 80, J 81, J 82, J 83, J 84, J 85, J 86, J 87, J 88, J 89, J 90, J 91, J 92, J 93, J 94, J 95, J 96, J 97, J 98, J 99, J 100, J 101, J 102, J 103, J 104, J 105, J 106, J 107, J 108, J 109, J 110, J 111, J 112] := ⟨fun i => T.getD i undefA, (ex113 T hTl).trans (by rw [h0t, h1t, h4t, h10t, h11t, h12t, h13t, h14t])⟩
    clear hTl h0t h1t h4t h10t h11t h12t h13t h14t
    subst hj
    refine ⟨fun hge => ?_, fun hlt => ?_⟩
    · obtain ⟨k, rfl⟩ : ∃ i, k = i + 1 := ⟨k - 1, by omega⟩
      obtain ⟨a, ha⟩ : ∃ a, A[k]? = some a := ⟨A[k]'(by omega), List.getElem?_eq_getElem _⟩
      have hAs : A = A.take k ++ [a] := by
        have := take_snoc ha
        rwa [List.take_of_length_le (by omega)] at this
      have haB := dA a (List.mem_of_getElem? ha)
      obtain ⟨lo, u2, u1, u0, hs3, hlo⟩ := split3 (l := a :: R) (k := N) (by simp; omega)
      have hj : ((k + 1 : Nat) : Int) - 1 = (k : Int) := by omega
      rw [hj]
      refine ⟨⟨by omega, by omega⟩, ?_⟩
      refine ⟨⟨by omega, by omega⟩, ?_⟩
      refine ⟨_, slice_off hT (b := H.n) (o := 0) (l := m + 1) (cap := m + 1) (j := k) (k := N + 3) rfl rfl (by show some (iv _) = _; congr 2; omega) (by simp at hZ; omega) (by simp at hZ; omega), ?_⟩
      have hB : H'.get H.n = .cells true 3 (ints (A.take k ++ ((lo ++ [u2, u1]) ++ u0 :: Zs))) := by
        rw [c1]
        congr 2
        conv => lhs; rw [hAs]
        have : (lo ++ [u2, u1]) ++ u0 :: Zs = (a :: R) ++ Zs := by rw [hs3]; simp
        rw [this]; simp
      have hVs : Sl H' (.sl (H.n + 1) 0 (n + 1) (n + 1)) (lv ++ [v2, v1]) := by
        rw [← hVL]
        exact ⟨hv2.symm, true, 3, ints VL, c2, by rw [ints_length]; omega, by rw [List.drop_zero, List.take_of_length_le (by rw [ints_length]; omega)]⟩
      have daR : Dig (a :: R) := fun z hz => by
        rcases List.mem_cons.1 hz with rfl | hz
        · exact haB
        · exact dR z hz
      have hvaR : val ((lo ++ [u2, u1]) ++ [u0]) = a + 100000000 * val R := by rw [← hs3]; rfl
      have dg := digit_run S hS.h211 hS.h208 (H := H') (v := .sl (H.n + 1) 0 (n + 1) (n + 1)) (b := H.n) (o := k) (c := m + 1 - k) (A := A.take k) (Z := Zs) (lo := lo) (lv := lv) (u0 := u0) (u1 := u1) (u2 := u2) (v1 := v1) (v2 := v2) (by omega) (by omega) (by simp; omega) (by omega) (by omega) hB hVs (by show H.n + 1 ≠ H.n; omega)
        (fun z hz => daR z (by rw [hs3]; exact List.mem_append_left _ hz)) (daR u0 (by rw [hs3]; simp)) (by rw [← hVL]; exact dV) hv1B (by rw [hvaR, ← hVL]; omega)
      rw [← hVL, hvaR, hlv] at dg
      rw [Nat.zero_add]
      refine dg.mono ?_
      rintro _ H4 ⟨L, q, rfl, hq0, hqB, hL, dL, hLV, hqv, hW⟩
      have hn4 := hW.n
      have c3' : H4.get (H.n + 2) = .cells true 3 (ints (List.replicate (k + 1) 0 ++ Qs)) := by rw [hW.other _ (by omega)]; exact c3
      have hOw : Ow H4 (.sl (H.n + 2) 0 K K) (H.n + 2) (List.replicate (k + 1) 0 ++ Qs) K := ⟨c3', by simp; omega, .inl ⟨K, rfl, Nat.le_refl _, by simp; omega⟩⟩
      refine ⟨_, idx_sl hT (v := .sl (H.n + 2) 0 K K) (n := (k : Int)) (k := k) rfl rfl hOw.sl rfl (by simp; omega), ?_⟩
      refine ⟨_, store_ow hT hOw (by omega), ?_⟩
      let H5 : Heap := H4.set (H.n + 2) (.cells true 3 (ints ((List.replicate (k + 1) 0 ++ Qs).set k q)))
      have hX5 : Upd H4 (H.n + 2) (.cells true 3 (ints ((List.replicate (k + 1) 0 ++ Qs).set k q))) H5 := upd_set (by omega) (by omega)
      have hset : (List.replicate (k + 1) (0:Int) ++ Qs).set k q = List.replicate k 0 ++ q :: Qs := by
        rw [List.replicate_succ', List.append_assoc, List.set_append_right _ _ (by simp)]; simp
      rw [hset] at hX5
      have hn5 := hX5.n
      refine ⟨⟨by omega, by omega⟩, ?_⟩
      refine ⟨k, by omega, k, _, A.take k, L, q :: Qs, 0 :: Zs, H5, _, rfl, rfl, rfl, rfl, rfl, rfl, rfl, rfl, rfl, rfl, rfl, by omega, by omega, by simp; omega, by omega, fun z hz => dA z (List.mem_of_mem_take hz), dL, fun z hz => ?_, by simp; omega, by simp at hZ ⊢; omega, hLV, ?_, by omega, fun B hB => ?_, ?_, ?_, hX5.at_⟩
      · rcases List.mem_cons.1 hz with rfl | hz
        · exact ⟨hq0, hqB⟩
        · exact dQ z hz
      · have e1 : val A = val (A.take k) + pw k * a := by
          conv => lhs; rw [hAs]
          rw [val_snoc]; simp [Nat.min_eq_left (show k ≤ A.length by omega)]
        rw [hval, e1, pw_succ]
        simp only [val]
        have e2 : pw k * (a + 100000000 * val R) = pw k * (q * val VL + val L) := by rw [hqv]
        grind
      · rw [hX5.other B (by omega), hW.other B (by omega)]; exact c0 B hB
      · rw [hX5.other _ (by omega)]; exact hW.at_
      · rw [hX5.other _ (by omega), hW.other _ (by omega)]; exact c2
    · have hk0 : k = 0 := by omega
      subst hk0
      have hAn : A = [] := List.eq_nil_of_length_eq_zero hA
      subst hAn
      rw [List.nil_append] at c1 hZ
      have hO1 : Ow H' (.sl H.n 0 (m + 1) (m + 1)) H.n (R ++ Zs) (m + 1) := ⟨c1, by omega, .inl ⟨m + 1, rfl, Nat.le_refl _, by omega⟩⟩
      obtain ⟨r1, hr1, hO2⟩ := hO1.cut hT (C := ctx.plus S) (ρ := fun o => match o with | .tmp 102 => some (.sl H.n 0 (m + 1) (m + 1)) | _ => some (iv ((n + 1 + 0 : Nat) : Int))) (x := .tmp 102) (y := .tmp 103) (k := n + 1) rfl rfl (by omega)
      refine ⟨r1, hr1, ?_⟩
      refine (trim_run S hS.o.h156 (by omega) hO2).mono ?_
      rintro r2 _ ⟨rfl, hO3⟩
      have htR : (R ++ Zs).take (n + 1) = R := by rw [List.take_append_of_le_length (by omega), List.take_of_length_le (by omega)]
      rw [htR, dR.trim] at hO3
      have hs3 := hO3.sl
      have htr := (trim_take R).1
      rw [dR.trim] at htr
      have hle : (digits (val R)).length ≤ n + 1 := by have := (trim_take R).2.2; rw [dR.trim] at this; omega
      have htk : (R ++ Zs).take (digits (val R)).length = digits (val R) := by
        rw [List.take_append_of_le_length (by omega)]; exact htr.symm
      rw [htk] at hs3
      have dtr : Dig (digits (val R)) := by rw [← dR.trim]; exact fun z hz => dR z (trim_mem R z hz)
      refine (short1_new S hS.h206 hS.o.h156 hS.h204 hS.h210 (H := H') (x := r2) (xs := digits (val R)) (d := f) (by omega) hs3 (by omega) dtr ⟨f1, by omega⟩).mono ?_
      rintro _ H4 ⟨q, rfl, hq, k4⟩
      rw [val_digits] at hq
      have k4n := k4.n
      have k4m := k4.m
      have c3' : H4.get (H.n + 2) = .cells true 3 (ints Qs) := by rw [k4.get _ (by omega)]; exact c3
      have hO4 : Ow H4 (.sl (H.n + 2) 0 K K) (H.n + 2) Qs K := ⟨c3', by omega, .inl ⟨K, rfl, Nat.le_refl _, by omega⟩⟩
      refine (trim_run S hS.o.h156 (by omega) hO4).mono ?_
      rintro r5 _ ⟨rfl, hO5⟩
      rw [List.take_of_length_le (show Qs.length ≤ K by omega), dQ.trim] at hO5
      have htq := (trim_take Qs).1
      rw [dQ.trim] at htq
      have hv' : f * val xs = val R + (f * val (ys' ++ [t])) * val Qs := by
        rw [← hu4, hval, hv4]; simp [val, pw]
      have e1 : val R = f * (val xs - val (ys' ++ [t]) * val Qs) := by rw [Int.mul_sub]; grind
      have hRn := dR.val.1
      rw [hv4] at hRV
      obtain ⟨w0, hw0⟩ : ∃ w0, val xs - val (ys' ++ [t]) * val Qs = w0 := ⟨_, rfl⟩
      rw [hw0] at e1
      have w1 : 0 ≤ w0 := by
        rcases ilt_or w0 0 with h | h
        · exfalso
          have := Int.mul_le_mul_of_nonneg_left (show w0 ≤ -1 by omega) (show 0 ≤ f by omega)
          omega
        · exact h
      have w2 : w0 < val (ys' ++ [t]) := Int.lt_of_mul_lt_mul_left (a := f) (by omega) (by omega)
      obtain ⟨m1, m2⟩ := divmod_of (v := val xs) (d := val (ys' ++ [t])) (q := val Qs) (r := w0) (by rw [Int.mul_comm]; omega) w1 w2
      have m3 : val R / f = w0 := by rw [e1]; exact Int.mul_ediv_cancel_left _ (by omega)
      rw [m3] at hq
      have hkA : ∀ B, B < H.n → H4.get B = H.get B := fun B hB => by rw [k4.get B (by omega)]; exact c0 B hB
      have hkH : Kp H H' 3 := ⟨by omega, by omega, c0⟩
      have hM5 : Mine H H.n r5 (digits (val Qs)) H4 := ⟨by omega, fun A hA _ => hkA A hA, H.n + 2, Qs, hO5, htq.symm, .inr (by omega)⟩
      rw [← m1] at hM5
      have hMq := hq.lift hkH (Kp.refl _ _ : Kp H4 H4 0)
      rw [← m2] at hMq
      have hfin : ∃ q' w, AV.tup [r5, q] = .tup [q', w] ∧ Nw H q' (digits (val xs / val (ys' ++ [t]))) H4 ∧ Nw H w (digits (val xs % val (ys' ++ [t]))) H4 ∧ Kp H H4 60 :=
        ⟨r5, q, rfl, .inr hM5, .inr hMq, by omega, by omega, hkA⟩
      exact hfin
end Go.PI
