/- Own work of the verifier: CiRef3 CiRef4 CiRef5 CiRefB. -/
import Derived.Test.YtdflpkkgjppmgaaGreatCfBF
import Derived.Test.YtdflpkkgjppmgaaGreatCfAP
set_option linter.all false
set_option exponentiation.threshold 3000
set_option linter.deprecated false
/- The reference's Add, Neg, Sub, Sign, Cmp, less. -/
open Go.Proofs
namespace Go.PI
open IM
theorem fn75 : ctx.fn 75 = some c75 := by kernel_rfl
theorem fn90 : ctx.fn 90 = some c90 := by kernel_rfl
theorem fn118 : ctx.fn 118 = some c118 := by kernel_rfl
theorem fn168 : ctx.fn 168 = some c168 := by kernel_rfl
set_option maxRecDepth 10000
set_option maxHeartbeats 4000000
variable (S : FuncId → Option (List AV → Heap → Option (AV × Heap)))
theorem ex48 (T : List AV) (h : T.length = 48) : T = [T.getD 0 undefA, T.getD 1 undefA, T.getD 2 undefA, T.getD 3 undefA, T.getD 4 undefA, T.getD 5 undefA, T.getD 6 undefA, T.getD 7 undefA, T.getD 8 undefA, T.getD 9 undefA, T.getD 10 undefA, T.getD 11 undefA, T.getD 12 undefA, T.getD 13 undefA, T.getD 14 undefA, T.getD 15 undefA, T.getD 16 undefA, T.getD 17 undefA, T.getD 18 undefA, T.getD 19 undefA, T.getD 20 undefA, T.getD 21 undefA, T.getD 22 undefA, T.getD 23 undefA, T.getD 24 undefA, T.getD 25 undefA, T.getD 26 undefA, T.getD 27 undefA, T.getD 28 undefA, T.getD 29 undefA, T.getD 30 undefA, T.getD 31 undefA, T.getD 32 undefA, T.getD 33 undefA, T.getD 34 undefA, T.getD 35 undefA, T.getD 36 undefA, T.getD 37 undefA, T.getD 38 undefA, T.getD 39 undefA, T.getD 40 undefA, T.getD 41 undefA, T.getD 42 undefA, T.getD 43 undefA, T.getD 44 undefA, T.getD 45 undefA, T.getD 46 undefA, T.getD 47 undefA] := by
  have := expand T
  rw [h] at this
  exact this
theorem ex41 (T : List AV) (h : T.length = 41) : T = [T.getD 0 undefA, T.getD 1 undefA, T.getD 2 undefA, T.getD 3 undefA, T.getD 4 undefA, T.getD 5 undefA, T.getD 6 undefA, T.getD 7 undefA, T.getD 8 undefA, T.getD 9 undefA, T.getD 10 undefA, T.getD 11 undefA, T.getD 12 undefA, T.getD 13 undefA, T.getD 14 undefA, T.getD 15 undefA, T.getD 16 undefA, T.getD 17 undefA, T.getD 18 undefA, T.getD 19 undefA, T.getD 20 undefA, T.getD 21 undefA, T.getD 22 undefA, T.getD 23 undefA, T.getD 24 undefA, T.getD 25 undefA, T.getD 26 undefA, T.getD 27 undefA, T.getD 28 undefA, T.getD 29 undefA, T.getD 30 undefA, T.getD 31 undefA, T.getD 32 undefA, T.getD 33 undefA, T.getD 34 undefA, T.getD 35 undefA, T.getD 36 undefA, T.getD 37 undefA, T.getD 38 undefA, T.getD 39 undefA, T.getD 40 undefA] := by
  have := expand T
  rw [h] at this
  exact this
structure OldR (S : FuncId → Option (List AV → Heap → Option (AV × Heap))) : Prop where
  h82 : S 82 = none
  h75 : S 75 = none
  h90 : S 90 = none
  h62 : S 62 = none
  h109 : S 109 = none
  h134 : S 134 = none
  h124 : S 124 = none
  h125 : S 125 = none
  h126 : S 126 = none
  h118 : S 118 = none
  h142 : S 142 = none
  h141 : S 141 = none
  h143 : S 143 = none
  h168 : S 168 = none
structure SV (H : Heap) (v : AV) (xs : List Int) (X : Int) : Prop where
  sl : Sl H v xs
  in64 : ∀ e ∈ xs, In64 e
  len : xs.length ≤ 20
  val : val xs = X
  dl : (digits X).length ≤ 20
theorem SV.kp {H H' : Heap} {v : AV} {xs : List Int} {X : Int} {c : Nat} (h : SV H v xs X) (k : Kp H H' c) : SV H' v xs X := ⟨h.sl.kp k, h.in64, h.len, h.val, h.dl⟩
theorem SV.of {H : Heap} {v : AV} {X : Int} (h : Sl H v (digits X)) (hb : -pw 20 < X ∧ X < pw 20) : SV H v (digits X) X :=
  ⟨h, fun e he => by have := (nrm_digits X).sml' e he; unfold In64; omega, len_of hb, val_digits X, len_of hb⟩
def sumL : List Int → List Int → List Int
  | x :: xs, y :: ys => (x + y) :: sumL xs ys
  | xs, [] => xs
  | [], ys => ys
theorem sumL_nil (xs : List Int) : sumL xs [] = xs := by cases xs <;> rfl
theorem sumL_nil' (xs : List Int) : sumL [] xs = xs := by cases xs <;> rfl
theorem sumL_val : ∀ xs ys : List Int, val (sumL xs ys) = val xs + val ys
  | [], ys => by rw [sumL_nil']; simp [val]
  | x :: xs, [] => by rw [sumL_nil]; simp [val]
  | x :: xs, y :: ys => by
    simp only [sumL, val]
    rw [sumL_val xs ys]; omega
theorem sumL_length : ∀ xs ys : List Int, (sumL xs ys).length = max xs.length ys.length
  | [], ys => by rw [sumL_nil']; simp
  | x :: xs, [] => by rw [sumL_nil]; simp
  | x :: xs, y :: ys => by
    simp only [sumL, List.length_cons]
    rw [sumL_length xs ys]; omega
theorem sumL_get : ∀ (xs ys : List Int) (i : Nat), i < max xs.length ys.length → (sumL xs ys)[i]? = some (xs.getD i 0 + ys.getD i 0)
  | [], ys, i, h => by
    rw [sumL_nil']
    simp at h
    rw [List.getElem?_eq_getElem h]
    simp [List.getD_eq_getElem?_getD, List.getElem?_eq_getElem h]
  | x :: xs, [], i, h => by
    rw [sumL_nil]
    simp at h
    rw [List.getElem?_eq_getElem (by simpa using h)]
    simp [List.getD_eq_getElem?_getD, List.getElem?_eq_getElem (show i < (x :: xs).length by simpa using h)]
  | x :: xs, y :: ys, 0, h => by simp [sumL]
  | x :: xs, y :: ys, i + 1, h => by
    simp only [sumL, List.getElem?_cons_succ]
    rw [sumL_get xs ys i (by simp at h ⊢; omega)]
    simp
theorem radd_run (hR : OldR S) {H : Heap} {x y : AV} {xs ys : List Int} {X Y : Int} (hn : H.n + 1000 < lim) (hx : SV H x xs X) (hy : SV H y ys Y) :
    Cl (ctx.plus S) 75 [x, y] H fun r H' => Mine H H.n r (digits (X + Y)) H' ∧ H'.n ≤ H.n + 420 := by
  refine cl_of hR.h75 fn75 ?_
  have hT : (ctx.plus S).ty = tget := rfl
  have lx := hx.len
  have ly := hy.len
  have dx := hx.dl
  have dy := hy.dl
  refine (rnormal_run S hR.h82 hR.h124 hR.h125 hR.h126 (by omega) hx.sl (by omega) hx.in64).mono ?_
  rw [hx.val]
  rintro a H1 ⟨hM1, hn1⟩
  have k1 := hM1.kp (c := 120) (by omega)
  have k1m := k1.m
  refine (rnormal_run S hR.h82 hR.h124 hR.h125 hR.h126 (H := H1) (by omega) (hy.sl.kp k1) (by omega) hy.in64).mono ?_
  rw [hy.val]
  rintro b H2 ⟨hM2, hn2⟩
  have k2 := hM2.kp (c := 120) (by omega)
  have k2m := k2.m
  have k1n := k1.n
  have k2n := k2.n
  have ha : Sl H2 a (digits X) := hM1.toSl.kp k2
  have hb : Sl H2 b (digits Y) := hM2.toSl
  obtain ⟨us, hus⟩ : ∃ us, digits X = us := ⟨_, rfl⟩
  obtain ⟨ws, hws⟩ : ∃ ws, digits Y = ws := ⟨_, rfl⟩
  have su := (nrm_digits X).sml'
  have sw := (nrm_digits Y).sml'
  have vu := val_digits X
  have vw := val_digits Y
  rw [hus] at ha su vu dx
  rw [hws] at hb sw vw dy
  have hsl := sumL_length us ws
  have hsb : ∀ e ∈ sumL us ws, -200000000 ≤ e ∧ e ≤ 200000000 := by
    intro e he
    obtain ⟨i, hi⟩ := List.getElem?_of_mem he
    have hlt := (List.getElem?_eq_some_iff.1 hi).1
    rw [sumL_get us ws i (by omega)] at hi
    have g1 : -100000000 < us.getD i 0 ∧ us.getD i 0 < 100000000 := by
      rw [List.getD_eq_getElem?_getD]
      cases h : us[i]? with
      | none => simp
      | some z => simpa using su z (List.mem_of_getElem? h)
    have g2 : -100000000 < ws.getD i 0 ∧ ws.getD i 0 < 100000000 := by
      rw [List.getD_eq_getElem?_getD]
      cases h : ws[i]? with
      | none => simp
      | some z => simpa using sw z (List.mem_of_getElem? h)
    cases hi
    omega
  refine ⟨fun m s => ∃ (i : Nat) (n : Int) (o : AV) (H' : Heap) (T : List AV),
    s = ⟨T, H', []⟩ ∧ T.length = 48 ∧ T.getD 0 undefA = a ∧ T.getD 1 undefA = b ∧ T.getD 5 undefA = o ∧ T.getD 6 undefA = iv n ∧ m = max us.length ws.length - i ∧ n = i ∧ i ≤ max us.length ws.length ∧ MN H2 o ((sumL us ws).take i) H' ∧ H'.n ≤ H2.n + 2 * i, ⟨max us.length ws.length, ?_⟩, ?_⟩
  · exact ⟨0, _, .nils, H2, _, rfl, rfl, rfl, rfl, rfl, rfl, rfl, rfl, Nat.zero_le _, .inl ⟨rfl, rfl, Nat.le_refl _, fun _ _ => rfl⟩, by omega⟩
  · rintro m s ⟨i, n, o, H', T, rfl, hTl, h0t, h1t, h5t, h6t, rfl, rfl, hi, hM, hn'⟩
    obtain ⟨J, rfl⟩ : ∃ J : Nat → AV, T = [a, b, J 2, J 3, J 4, o, iv i, J 7, J 8, J 9, J 10, J 11, J 12, J 13, J 14, J 15, J 16, J 17, J 18, J 19, J 20, J 21, J 22, J 23, J 24, J 25, J 26, J 27, J 28, J 29, J 30, J 31, J 32, J 33, J 34, J 35, J 36, J 37, J 38, J 39, J 40, J 41, J 42, J 43, J 44, J 45, J 46, J 47] := ⟨fun i => T.getD i undefA, (ex48 T hTl).trans (by rw [h0t, h1t, h5t, h6t])⟩
    clear hTl h0t h1t h5t h6t
    have ha' : Sl H' a us := ha.mono hM.keep
    have hb' : Sl H' b ws := hb.mono hM.keep
    have step : ∀ e : Int, e = us.getD i 0 + ws.getD i 0 → i < max us.length ws.length → ∃ r H3, appendE (ctx.plus S) [22, 22] o (.sl H'.n 0 1 1) (H'.push (.cells true 3 [iv e])) = some (r, H3) ∧ MN H2 r ((sumL us ws).take (i + 1)) H3 ∧ H3.n ≤ H2.n + 2 * (i + 1) := by
      intro e he hlt
      obtain ⟨r, H3, h1, h2, h3⟩ := append_mn hT (C := ctx.plus S) (e := e) (by omega) (by simp; omega) hM
      refine ⟨r, H3, h1, .inr ?_, by omega⟩
      have hg := sumL_get us ws i hlt
      rw [take_snoc hg, ← he]
      exact h2
    have gd : ∀ {zs : List Int} {j : Nat} {e : Int}, zs[j]? = some e → zs.getD j 0 = e := fun h => by rw [List.getD_eq_getElem?_getD, h]; rfl
    have gn : ∀ {zs : List Int} {j : Nat}, zs.length ≤ j → zs.getD j 0 = 0 := fun h => by rw [List.getD_eq_getElem?_getD, List.getElem?_eq_none h]; rfl
    have done : i = max us.length ws.length → ∀ r H3, Mine H' H'.n r (digits (val ((sumL us ws).take i))) H3 ∧ H3.n ≤ H'.n + 4 * ((sumL us ws).take i).length + 40 → Mine H H.n r (digits (X + Y)) H3 ∧ H3.n ≤ H.n + 420 := by
      rintro he r H3 ⟨h1, h2⟩
      rw [List.take_of_length_le (by omega), sumL_val, vu, vw] at h1
      have hl2 : ((sumL us ws).take i).length ≤ 20 := by simp; omega
      refine ⟨h1.up (by have := hM.n; omega) (fun A hA => ?_), by omega⟩
      rw [hM.keep A (by omega), k2.get A (by omega), k1.get A hA]
    have fin : i = max us.length ws.length → Cl (ctx.plus S) 82 [o] H' fun r H3 => Mine H H.n r (digits (X + Y)) H3 ∧ H3.n ≤ H.n + 420 := fun he =>
      (rnormal_run S hR.h82 hR.h124 hR.h125 hR.h126 (H := H') (by simp; omega) hM.rv.sl (by simp; omega) (fun e he => by have := hsb e (List.mem_of_mem_take he); unfold In64; omega)).mono (done he)
    refine ⟨_, len_sl hT (v := a) rfl ha', ?_⟩
    refine ⟨fun h1 => ?_, fun h1 => ?_⟩
    · obtain ⟨e, he⟩ : ∃ e, us[i]? = some e := ⟨us[i]'(by omega), List.getElem?_eq_getElem _⟩
      have heB := su e (List.mem_of_getElem? he)
      refine ⟨_, len_sl hT (v := a) rfl ha', ?_⟩
      refine ⟨fun _ => ?_, fun h => absurd h1 (by omega)⟩
      refine ⟨_, idx_sl hT (v := a) (n := (i : Int)) (k := i) rfl rfl ha' rfl (by omega), ?_⟩
      refine ⟨_, load_sl hT ha' he, ?_⟩
      refine ⟨_, len_sl hT (v := b) rfl hb', ?_⟩
      refine ⟨fun h2 => ?_, fun h2 => ?_⟩
      · obtain ⟨f, hf⟩ : ∃ e, ws[i]? = some e := ⟨ws[i]'(by omega), List.getElem?_eq_getElem _⟩
        have hfB := sw f (List.mem_of_getElem? hf)
        refine ⟨_, idx_sl hT (v := b) (n := (i : Int)) (k := i) rfl rfl hb' rfl (by omega), ?_⟩
        refine ⟨_, load_sl hT hb' hf, ?_⟩
        refine ⟨⟨by omega, by omega⟩, ?_⟩
        refine ⟨by omega, _, _, rfl, ?_⟩
        obtain ⟨r, H3, q1, q2, q3⟩ := step (e + f) (by rw [gd he, gd hf]) (by omega)
        refine ⟨r, H3, q1, ?_⟩
        refine ⟨⟨by omega, by omega⟩, ?_⟩
        exact ⟨max us.length ws.length - (i + 1), by omega, i + 1, _, r, H3, _, rfl, rfl, rfl, rfl, rfl, rfl, rfl, rfl, by omega, q2, q3⟩
      · refine ⟨by omega, _, _, rfl, ?_⟩
        obtain ⟨r, H3, q1, q2, q3⟩ := step e (by rw [gd he, gn (by omega)]; omega) (by omega)
        refine ⟨r, H3, q1, ?_⟩
        refine ⟨⟨by omega, by omega⟩, ?_⟩
        exact ⟨max us.length ws.length - (i + 1), by omega, i + 1, _, r, H3, _, rfl, rfl, rfl, rfl, rfl, rfl, rfl, rfl, by omega, q2, q3⟩
    · refine ⟨_, len_sl hT (v := b) rfl hb', ?_⟩
      refine ⟨fun h2 => ?_, fun h2 => ?_⟩
      · obtain ⟨f, hf⟩ : ∃ e, ws[i]? = some e := ⟨ws[i]'(by omega), List.getElem?_eq_getElem _⟩
        have hfB := sw f (List.mem_of_getElem? hf)
        refine ⟨_, len_sl hT (v := a) rfl ha', ?_⟩
        refine ⟨fun h => absurd h (by omega), fun _ => ?_⟩
        refine ⟨_, len_sl hT (v := b) rfl hb', ?_⟩
        refine ⟨fun _ => ?_, fun h => absurd h2 (by omega)⟩
        refine ⟨_, idx_sl hT (v := b) (n := (i : Int)) (k := i) rfl rfl hb' rfl (by omega), ?_⟩
        refine ⟨_, load_sl hT hb' hf, ?_⟩
        refine ⟨⟨by omega, by omega⟩, ?_⟩
        refine ⟨by omega, _, _, rfl, ?_⟩
        obtain ⟨r, H3, q1, q2, q3⟩ := step (0 + f) (by rw [gd hf, gn (by omega)]) (by omega)
        refine ⟨r, H3, q1, ?_⟩
        refine ⟨⟨by omega, by omega⟩, ?_⟩
        exact ⟨max us.length ws.length - (i + 1), by omega, i + 1, _, r, H3, _, rfl, rfl, rfl, rfl, rfl, rfl, rfl, rfl, by omega, q2, q3⟩
      · exact fin (by omega)
end Go.PI
/- The reference's Cmp, less, Mul. -/
open Go.Proofs
namespace Go.PI
open IM
theorem fn62 : ctx.fn 62 = some c62 := by kernel_rfl
set_option maxRecDepth 10000
set_option maxHeartbeats 4000000
variable (S : FuncId → Option (List AV → Heap → Option (AV × Heap)))
theorem ex44 (T : List AV) (h : T.length = 44) : T = [T.getD 0 undefA, T.getD 1 undefA, T.getD 2 undefA, T.getD 3 undefA, T.getD 4 undefA, T.getD 5 undefA, T.getD 6 undefA, T.getD 7 undefA, T.getD 8 undefA, T.getD 9 undefA, T.getD 10 undefA, T.getD 11 undefA, T.getD 12 undefA, T.getD 13 undefA, T.getD 14 undefA, T.getD 15 undefA, T.getD 16 undefA, T.getD 17 undefA, T.getD 18 undefA, T.getD 19 undefA, T.getD 20 undefA, T.getD 21 undefA, T.getD 22 undefA, T.getD 23 undefA, T.getD 24 undefA, T.getD 25 undefA, T.getD 26 undefA, T.getD 27 undefA, T.getD 28 undefA, T.getD 29 undefA, T.getD 30 undefA, T.getD 31 undefA, T.getD 32 undefA, T.getD 33 undefA, T.getD 34 undefA, T.getD 35 undefA, T.getD 36 undefA, T.getD 37 undefA, T.getD 38 undefA, T.getD 39 undefA, T.getD 40 undefA, T.getD 41 undefA, T.getD 42 undefA, T.getD 43 undefA] := by
  have := expand T
  rw [h] at this
  exact this
theorem less_run (hR : OldR S) {H : Heap} {x y : AV} {xs ys : List Int} (hx : Sl H x xs) (hy : Sl H y ys) (lx : xs.length ≤ 1000) (ly : ys.length ≤ 1000) (dx : Dig xs) (dy : Dig ys) (tx : Top xs) (ty : Top ys) :
    Cl (ctx.plus S) 168 [x, y] H fun r H' => r = .bool (decide (val xs < val ys)) ∧ H = H' := by
  refine cl_of hR.h168 fn168 ?_
  have hT : (ctx.plus S).ty = tget := rfl
  have fin : ∀ β : Bool, (β = true ↔ val xs < val ys) → AV.bool β = .bool (decide (val xs < val ys)) ∧ H = H := fun β h => by
    refine ⟨?_, rfl⟩
    congr 1
    cases β with
    | true => exact (decide_eq_true (h.1 rfl)).symm
    | false => exact (decide_eq_false (fun hh => by have := h.2 hh; cases this)).symm
  refine ⟨_, len_sl hT (v := x) rfl hx, ?_⟩
  refine ⟨_, len_sl hT (v := y) rfl hy, ?_⟩
  refine ⟨fun hne => ?_, fun heq => ?_⟩
  · refine ⟨_, len_sl hT (v := x) rfl hx, ?_⟩
    refine ⟨_, len_sl hT (v := y) rfl hy, ?_⟩
    refine ⟨fun h => ?_, fun h => ?_⟩
    · exact fin true ⟨fun _ => lt_len dx dy ty (by omega), fun _ => rfl⟩
    · exact fin false ⟨fun h' => by simp at h', fun h' => by have := lt_len dy dx tx (by omega); omega⟩
  · have hll : xs.length = ys.length := by omega
    refine ⟨_, len_sl hT (v := x) rfl hx, ?_⟩
    refine ⟨⟨by omega, by omega⟩, ?_⟩
    refine ⟨fun m s => ∃ (k : Nat) (n : Int) (T : List AV), s = ⟨T, H, []⟩ ∧ T.length = 41 ∧ T.getD 0 undefA = x ∧ T.getD 1 undefA = y ∧ T.getD 5 undefA = iv n ∧ m = k ∧ n = (k : Int) - 1 ∧ k ≤ xs.length ∧ xs.drop k = ys.drop k, ⟨xs.length, ?_⟩, ?_⟩
    · exact ⟨xs.length, _, _, rfl, rfl, rfl, rfl, rfl, rfl, rfl, Nat.le_refl _, by rw [List.drop_length, hll, List.drop_length]⟩
    · rintro m s ⟨k, n, T, rfl, hTl, h0t, h1t, h5t, hm, rfl, hk, hd⟩
      obtain ⟨J, rfl⟩ : ∃ J : Nat → AV, T = [x, y, J 2, J 3, J 4, iv ((k : Int) - 1), J 6, J 7, J 8, J 9, J 10, J 11, J 12, J 13, J 14, J 15, J 16, J 17, J 18, J 19, J 20, J 21, J 22, J 23, J 24, J 25, J 26, J 27, J 28, J 29, J 30, J 31, J 32, J 33, J 34, J 35, J 36, J 37, J 38, J 39, J 40] := ⟨fun i => T.getD i undefA, (ex41 T hTl).trans (by rw [h0t, h1t, h5t])⟩
      clear hTl h0t h1t h5t
      refine ⟨fun hge => ?_, fun hlt => ?_⟩
      · obtain ⟨k, rfl⟩ : ∃ j, k = j + 1 := ⟨k - 1, by omega⟩
        obtain ⟨e, he⟩ : ∃ e, xs[k]? = some e := ⟨xs[k]'(by omega), List.getElem?_eq_getElem _⟩
        obtain ⟨f, hf⟩ : ∃ e, ys[k]? = some e := ⟨ys[k]'(by omega), List.getElem?_eq_getElem _⟩
        have hnx : xs ≠ [] := by intro h; subst h; simp at he
        have hny : ys ≠ [] := by intro h; subst h; simp at hf
        obtain ⟨bx, ox, hbx, hax⟩ := hx.addr hnx
        obtain ⟨b2, o2, hb2, ha2⟩ := hy.addr hny
        have lx : loadE (ctx.plus S) 3 (addr x k) H = some (iv e) := load_sl hT hx he
        have ly : loadE (ctx.plus S) 3 (addr y k) H = some (iv f) := load_sl hT hy hf
        have lx' : loadE (ctx.plus S) 3 (.ptr bx (ox + k)) H = some (iv e) := by rw [← hax]; exact lx
        have ly' : loadE (ctx.plus S) 3 (.ptr b2 (o2 + k)) H = some (iv f) := by rw [← ha2]; exact ly
        have si : ∀ n : Int, (iv n).same (iv n) = true := fun n => by simp [AV.same, AV.sames]
        have ix : ∀ {ρ : Operand → Option AV} {a i : Operand}, ρ a = some x → ρ i = some (iv (((k + 1 : Nat) : Int) - 1)) → pureE (ctx.plus S) ρ (.indexAddr 22 a i) = some (addr x k) := fun h1 h2 => idx_sl hT (n := ((k + 1 : Nat) : Int) - 1) h1 h2 hx (by omega) (by omega)
        have iy : ∀ {ρ : Operand → Option AV} {a i : Operand}, ρ a = some y → ρ i = some (iv (((k + 1 : Nat) : Int) - 1)) → pureE (ctx.plus S) ρ (.indexAddr 22 a i) = some (addr y k) := fun h1 h2 => idx_sl hT (n := ((k + 1 : Nat) : Int) - 1) h1 h2 hy (by omega) (by omega)
        refine ⟨_, ix rfl rfl, ?_⟩
        refine ⟨_, lx, ?_⟩
        refine ⟨_, iy rfl rfl, ?_⟩
        refine ⟨_, ly, ?_⟩
        have hcmp : e ≠ f → cmpI e f = cmpI (val xs) (val ys) := fun hne => cmp_dif (dx.nrm tx) (dy.nrm ty) (by
          rcases sgn_val (dx.nrm tx) with ⟨-, h, -⟩ | ⟨h1, -, -, -⟩ | ⟨-, -, h, -⟩
          · exact absurd h hnx
          · rcases sgn_val (dy.nrm ty) with ⟨-, h, -⟩ | ⟨h2, -, -, -⟩ | ⟨-, -, h, -⟩
            · exact absurd h hny
            · rw [h1, h2]
            · have := dy.val.1; omega
          · have := dx.val.1; omega) he hf hne hd
        refine ⟨fun hne => ?_, fun heq2 => ?_⟩
        · refine ⟨draw_of2 H 9 (by kernel_rfl) rfl ?_ ?_ ?_, ?_⟩
          · exact ⟨trivial, trivial, trivial, ⟨_, _, _, congrArg some (hax _), hbx, lx', si _⟩, trivial, trivial, trivial, ⟨_, _, _, congrArg some (ha2 _), hb2, ly', si _⟩, trivial, trivial⟩
          · repeat' (first | exact trivial | refine ⟨fun _ _ => rfl, ?_⟩)
          · repeat' (first | exact trivial | refine ⟨Nat.le_refl _, ?_⟩)
          have hc := hcmp hne
          refine ⟨_, ix rfl rfl, ?_⟩
          refine ⟨_, lx, ?_⟩
          refine ⟨_, iy rfl rfl, ?_⟩
          refine ⟨_, ly, ?_⟩
          refine ⟨fun hl => ?_, fun hl => ?_⟩
          · refine ⟨draw_of2 H 10 (by kernel_rfl) rfl ?_ ?_ ?_, ?_⟩
            · exact ⟨trivial, trivial, trivial, ⟨_, _, _, congrArg some (hax _), hbx, lx', si _⟩, trivial, trivial, trivial, ⟨_, _, _, congrArg some (ha2 _), hb2, ly', si _⟩, trivial, trivial, trivial⟩
            · repeat' (first | exact trivial | refine ⟨fun _ _ => rfl, ?_⟩)
            · repeat' (first | exact trivial | refine ⟨Nat.le_refl _, ?_⟩)
            refine fin true ⟨fun _ => ?_, fun _ => rfl⟩
            unfold cmpI at hc
            rw [if_pos hl] at hc
            split at hc
            · assumption
            · split at hc <;> omega
          · refine ⟨draw_of2 H 10 (by kernel_rfl) rfl ?_ ?_ ?_, ?_⟩
            · exact ⟨trivial, trivial, trivial, ⟨_, _, _, congrArg some (hax _), hbx, lx', si _⟩, trivial, trivial, trivial, ⟨_, _, _, congrArg some (ha2 _), hb2, ly', si _⟩, trivial, trivial, trivial⟩
            · repeat' (first | exact trivial | refine ⟨fun _ _ => rfl, ?_⟩)
            · repeat' (first | exact trivial | refine ⟨Nat.le_refl _, ?_⟩)
            refine fin false ⟨fun h => by simp at h, fun h => ?_⟩
            unfold cmpI at hc
            rw [if_neg (by omega), if_pos (by omega), if_pos h] at hc
            omega
        · refine ⟨draw_of2 H 9 (by kernel_rfl) rfl ?_ ?_ ?_, ?_⟩
          · exact ⟨trivial, trivial, trivial, ⟨_, _, _, congrArg some (hax _), hbx, lx', si _⟩, trivial, trivial, trivial, ⟨_, _, _, congrArg some (ha2 _), hb2, ly', si _⟩, trivial, trivial⟩
          · repeat' (first | exact trivial | refine ⟨fun _ _ => rfl, ?_⟩)
          · repeat' (first | exact trivial | refine ⟨Nat.le_refl _, ?_⟩)
          refine ⟨⟨by omega, by omega⟩, ?_⟩
          exact ⟨k, by omega, k, _, _, rfl, rfl, rfl, rfl, rfl, rfl, by omega, by omega, by rw [drop_of_get he, drop_of_get hf, heq2, hd]⟩
      · have hk0 : k = 0 := by omega
        subst hk0
        have hxy : xs = ys := by simpa using hd
        exact fin false ⟨fun h => by simp at h, fun h => by rw [hxy] at h; omega⟩
theorem appendE_ge {C : Ctx} {ts : List TypeId} {s x r : AV} {H H' : Heap} (h : appendE C ts s x H = some (r, H')) : H.n ≤ H'.n := by
  have hp : ∀ (G : Heap) (b : Blk), (G.push b).n = G.n + 1 := fun _ _ => rfl
  have hs : ∀ (G : Heap) (A : Nat) (b : Blk), (G.set A b).n = G.n := fun _ _ _ => rfl
  unfold appendE appendZ at h
  repeat' split at h
  all_goals first
    | (cases h; done)
    | (cases h; first | exact Nat.le_refl _ | (rw [hp]; omega) | (rw [hs]; exact Nat.le_refl _) | (rw [hp, hs]; omega))
end Go.PI
/- The reference's Mul. -/
open Go.Proofs
namespace Go.PI
open IM
set_option maxRecDepth 10000
set_option maxHeartbeats 4000000
variable (S : FuncId → Option (List AV → Heap → Option (AV × Heap)))
theorem val_take_snoc {us : List Int} {i : Nat} {e : Int} (h : us[i]? = some e) : val (us.take (i + 1)) = val (us.take i) + pw i * e := by
  have hl := (List.getElem?_eq_some_iff.1 h).1
  rw [take_snoc h, val_snoc, List.length_take, Nat.min_eq_left (by omega)]
theorem sml_val {us : List Int} (h : Sml us) : -pw us.length < val us ∧ val us < pw us.length := by
  induction us with
  | nil => decide
  | cons x xs ih =>
    have h1 := h x (by simp)
    have h2 := ih fun y hy => h y (by simp [hy])
    simp only [val, List.length_cons, pw]
    omega
theorem abs_mul_lt {a b p q : Int} (ha : -p < a ∧ a < p) (hb : -q < b ∧ b < q) : -(p * q) < a * b ∧ a * b < p * q := by
  have h := mul_bd (a := a) (b := b) (m := p - 1) (n := q) (by omega) (by omega)
  have e : (p - 1) * q = p * q - q := by rw [Int.sub_mul]; omega
  rw [e] at h
  omega
theorem rmul_run (hR : OldR S) {H : Heap} {x y : AV} {xs ys : List Int} {X Y : Int} (hn : H.n + 20000 < lim) (hx : SV H x xs X) (hy : SV H y ys Y) (hxy : (digits X).length + (digits Y).length ≤ 20) :
    Cl (ctx.plus S) 62 [x, y] H fun r H' => Mine H H.n r (digits (X * Y)) H' ∧ H'.n ≤ H.n + 10000 := by
  refine cl_of hR.h62 fn62 ?_
  have hT : (ctx.plus S).ty = tget := rfl
  have lx := hx.len
  have ly := hy.len
  refine (rnormal_run S hR.h82 hR.h124 hR.h125 hR.h126 (by omega) hx.sl (by omega) hx.in64).mono ?_
  rw [hx.val]
  rintro a H1 ⟨hM1, hn1⟩
  have k1 := hM1.kp (c := 120) (by omega)
  have k1m := k1.m
  have k1n := k1.n
  refine (rnormal_run S hR.h82 hR.h124 hR.h125 hR.h126 (H := H1) (by omega) (hy.sl.kp k1) (by omega) hy.in64).mono ?_
  rw [hy.val]
  rintro b H2 ⟨hM2, hn2⟩
  have k2 := hM2.kp (c := 120) (by omega)
  have k2m := k2.m
  have k2n := k2.n
  have ha : Sl H2 a (digits X) := hM1.toSl.kp k2
  have hb : Sl H2 b (digits Y) := hM2.toSl
  have su := (nrm_digits X).sml'
  have sw := (nrm_digits Y).sml'
  have vu := val_digits X
  have vw := val_digits Y
  obtain ⟨us, hus⟩ : ∃ us, digits X = us := ⟨_, rfl⟩
  obtain ⟨ws, hws⟩ : ∃ ws, digits Y = ws := ⟨_, rfl⟩
  rw [hus] at ha su vu hxy
  rw [hws] at hb sw vw hxy
  have bw := sml_val sw
  rw [vw] at bw
  have hP : pw us.length * pw ws.length ≤ pw 20 := by rw [← pw_add]; exact pw_mono hxy
  have bnd : ∀ i : Nat, i ≤ us.length → -pw 20 < val (us.take i) * Y ∧ val (us.take i) * Y < pw 20 := fun i hi => by
    have s1 := sml_val (us := us.take i) (fun z hz => su z (List.mem_of_mem_take hz))
    rw [List.length_take, Nat.min_eq_left hi] at s1
    have h := abs_mul_lt s1 bw
    have : pw i * pw ws.length ≤ pw us.length * pw ws.length := Int.mul_le_mul_of_nonneg_right (pw_mono hi) (by have := pw_pos ws.length; omega)
    omega
  have fin : ∀ (o : AV) (H' : Heap), Sl H' o (digits (val (us.take us.length) * Y)) → H2.n ≤ H'.n → (∀ A, A < H2.n → H'.get A = H2.get A) → H'.n ≤ H2.n + 470 * us.length → Cl (ctx.plus S) 82 [o] H' fun r H3 => Mine H H.n r (digits (X * Y)) H3 ∧ H3.n ≤ H.n + 10000 := by
    intro o H' ho hn1' hk' hn2'
    rw [List.take_length, vu] at ho
    have hb2 := bnd us.length (Nat.le_refl _)
    rw [List.take_length, vu] at hb2
    have hsv := SV.of ho hb2
    have hln := hsv.len
    refine (rnormal_run S hR.h82 hR.h124 hR.h125 hR.h126 (H := H') (by omega) ho (by omega) hsv.in64).mono ?_
    rw [val_digits]
    rintro r H3 ⟨h1, h2⟩
    exact ⟨h1.up (by omega) (fun A hA => by rw [hk' A (by omega), k2.get A (by omega), k1.get A hA]), by omega⟩
  refine ⟨fun m s => ∃ (i : Nat) (n : Int) (o : AV) (H' : Heap) (T : List AV),
    s = ⟨T, H', []⟩ ∧ T.length = 44 ∧ T.getD 0 undefA = a ∧ T.getD 1 undefA = b ∧ T.getD 5 undefA = o ∧ T.getD 6 undefA = iv n ∧ m = us.length - i ∧ n = i ∧ i ≤ us.length ∧ Sl H' o (digits (val (us.take i) * Y)) ∧ H2.n ≤ H'.n ∧ (∀ A, A < H2.n → H'.get A = H2.get A) ∧ H'.n ≤ H2.n + 470 * i, ⟨us.length, ?_⟩, ?_⟩
  · exact ⟨0, _, .nils, H2, _, rfl, rfl, rfl, rfl, rfl, rfl, rfl, rfl, Nat.zero_le _, by simp [val]; rfl, Nat.le_refl _, fun _ _ => rfl, by omega⟩
  · rintro m s ⟨i, n, o, H', T, rfl, hTl, h0t, h1t, h5t, h6t, rfl, rfl, hi, ho, hn3, hk3, hn4⟩
    obtain ⟨J, rfl⟩ : ∃ J : Nat → AV, T = [a, b, J 2, J 3, J 4, o, iv i, J 7, J 8, J 9, J 10, J 11, J 12, J 13, J 14, J 15, J 16, J 17, J 18, J 19, J 20, J 21, J 22, J 23, J 24, J 25, J 26, J 27, J 28, J 29, J 30, J 31, J 32, J 33, J 34, J 35, J 36, J 37, J 38, J 39, J 40, J 41, J 42, J 43] := ⟨fun i => T.getD i undefA, (ex44 T hTl).trans (by rw [h0t, h1t, h5t, h6t])⟩
    clear hTl h0t h1t h5t h6t
    have ha' : Sl H' a us := ha.mono hk3
    have hb' : Sl H' b ws := hb.mono hk3
    refine ⟨_, len_sl hT (v := a) rfl ha', ?_⟩
    refine ⟨fun hlt => ?_, fun hge => ?_⟩
    · obtain ⟨e, he⟩ : ∃ e, us[i]? = some e := ⟨us[i]'(by omega), List.getElem?_eq_getElem _⟩
      have heB := su e (List.mem_of_getElem? he)
      refine ⟨by omega, ⟨by omega, by omega, by omega⟩, ?_⟩
      rw [show ((i : Int)).toNat = i by omega, show (List.replicate i t3.zero.cells).flatten = ints (List.replicate i 0) from ints_zeros _]
      have hp := Heap.get_push (H := H') (b := .cells true 3 (ints (List.replicate i 0))) (by omega)
      have hpn : (H'.push (.cells true 3 (ints (List.replicate i 0)))).n = H'.n + 1 := rfl
      generalize H'.push (.cells true 3 (ints (List.replicate i 0))) = Hp at hp hpn ⊢
      have hkp : ∀ A, A < H'.n → Hp.get A = H'.get A := fun A hA => by rw [hp, if_neg (by omega)]
      have hM0 : Mine H' H'.n (.sl H'.n 0 i i) (List.replicate i 0) Hp := by
        have := Mine.fresh_refl (H := H') (b := H'.n) (zs := List.replicate i 0) (v := .sl H'.n 0 i i) (l := i) (H1 := Hp) (by omega) hkp ⟨by rw [hp, if_pos rfl], by simp, .inl ⟨i, rfl, Nat.le_refl _, by simp⟩⟩ (Nat.le_refl _)
        rwa [List.take_of_length_le (by simp)] at this
      refine ⟨fun m s => ∃ (k : Nat) (n : Int) (r : AV) (H3 : Heap) (T : List AV),
        s = ⟨T, H3, []⟩ ∧ T.length = 44 ∧ T.getD 0 undefA = a ∧ T.getD 1 undefA = b ∧ T.getD 5 undefA = o ∧ T.getD 6 undefA = iv i ∧ T.getD 7 undefA = r ∧ T.getD 8 undefA = iv n ∧ m = ws.length - k ∧ n = k ∧ k ≤ ws.length ∧ Mine H' H'.n r (List.replicate i 0 ++ mulL e (ws.take k)) H3 ∧ H3.n ≤ H'.n + 1 + 2 * k, ⟨ws.length, ?_⟩, ?_⟩
      · exact ⟨0, _, _, Hp, _, rfl, rfl, rfl, rfl, rfl, rfl, rfl, rfl, rfl, rfl, Nat.zero_le _, by simpa [mulL] using hM0, by omega⟩
      · rintro m s ⟨k, n, r, H3, T, rfl, hTl, h0t, h1t, h5t, h6t, h7t, h8t, rfl, rfl, hk, hM3, hn5⟩
        obtain ⟨J', rfl⟩ : ∃ J : Nat → AV, T = [a, b, J 2, J 3, J 4, o, iv i, r, iv k, J 9, J 10, J 11, J 12, J 13, J 14, J 15, J 16, J 17, J 18, J 19, J 20, J 21, J 22, J 23, J 24, J 25, J 26, J 27, J 28, J 29, J 30, J 31, J 32, J 33, J 34, J 35, J 36, J 37, J 38, J 39, J 40, J 41, J 42, J 43] := ⟨fun i => T.getD i undefA, (ex44 T hTl).trans (by rw [h0t, h1t, h5t, h6t, h7t, h8t])⟩
        clear hTl h0t h1t h5t h6t h7t h8t
        have hk4 : ∀ A, A < H'.n → H3.get A = H'.get A := fun A hA => hM3.keep A hA (by omega)
        have hn6 := hM3.n
        have ha3 : Sl H3 a us := ha'.mono hk4
        have hb3 : Sl H3 b ws := hb'.mono hk4
        refine ⟨_, len_sl hT (v := b) rfl hb3, ?_⟩
        refine ⟨fun hlt2 => ?_, fun hge2 => ?_⟩
        · obtain ⟨f, hf⟩ : ∃ e, ws[k]? = some e := ⟨ws[k]'(by omega), List.getElem?_eq_getElem _⟩
          have hfB := sw f (List.mem_of_getElem? hf)
          have hef := mul_bd (a := e) (b := f) (m := 100000000) (n := 100000000) (by omega) (by omega)
          obtain ⟨bx, ox, hbx, hax⟩ := ha3.addr (by intro h; subst h; simp at he)
          obtain ⟨b2, o2, hb2, ha2⟩ := hb3.addr (by intro h; subst h; simp at hf)
          have lx : loadE (ctx.plus S) 3 (addr a i) H3 = some (iv e) := load_sl hT ha3 he
          have ly : loadE (ctx.plus S) 3 (addr b k) H3 = some (iv f) := load_sl hT hb3 hf
          have lx' : loadE (ctx.plus S) 3 (.ptr bx (ox + i)) H3 = some (iv e) := by rw [← hax]; exact lx
          have ly' : loadE (ctx.plus S) 3 (.ptr b2 (o2 + k)) H3 = some (iv f) := by rw [← ha2]; exact ly
          have si : ∀ n : Int, (iv n).same (iv n) = true := fun n => by simp [AV.same, AV.sames]
          refine ⟨_, idx_sl hT (v := a) (n := (i : Int)) (k := i) rfl rfl ha3 rfl (by omega), ?_⟩
          refine ⟨_, lx, ?_⟩
          refine ⟨_, idx_sl hT (v := b) (n := (k : Int)) (k := k) rfl rfl hb3 rfl (by omega), ?_⟩
          refine ⟨_, ly, ?_⟩
          refine ⟨⟨by omega, by omega⟩, ?_⟩
          refine ⟨by omega, _, _, rfl, ?_⟩
          obtain ⟨r2, H4, hap, hM4, hn7⟩ := append_mine hT (C := ctx.plus S) (e := e * f) (by omega) (by simp [mulL]; omega) hM3
          have hge4 := appendE_ge hap
          refine ⟨r2, H4, hap, ?_⟩
          refine ⟨draw_of4 [[], [], [], [], [true, false, false, false, false, false, false, false, false, false, false, false, false, false], [], [], [], [true, false, false, false, false, false, false, false, false, false, false, false, false, false], [], [], [], []] (by kernel_rfl) rfl ?_ ?_ ?_, ?_⟩
          · exact ⟨trivial, trivial, trivial, trivial, ⟨_, _, _, congrArg some (hax _), lx', si _, rfl, trivial⟩, trivial, trivial, trivial, ⟨_, _, _, congrArg some (ha2 _), ly', si _, rfl, trivial⟩, trivial, trivial, trivial, trivial, trivial⟩
          · exact ⟨trivial, trivial, trivial, trivial, trivial, trivial, trivial, trivial, trivial, trivial, ⟨_, _, _, rfl⟩, trivial, trivial, trivial⟩
          · repeat' (first | exact trivial | refine ⟨Nat.le_refl _, ?_⟩ | refine ⟨Nat.le_succ _, ?_⟩ | refine ⟨hge4, ?_⟩)
          refine ⟨⟨by omega, by omega⟩, ?_⟩
          refine ⟨ws.length - (k + 1), by omega, k + 1, _, r2, H4, _, rfl, rfl, rfl, rfl, rfl, rfl, rfl, rfl, rfl, rfl, by omega, ?_, by omega⟩
          rw [take_snoc hf, mulL_snoc, ← List.append_assoc]
          exact hM4
        · have hkl : k = ws.length := by omega
          subst hkl
          rw [List.take_length] at hM3
          have hrow : val (List.replicate i 0 ++ mulL e ws) = pw i * (e * Y) := by
            rw [val_append, val_zeros, mulL_val, vw, List.length_replicate]; omega
          have hrb : -pw 20 < pw i * (e * Y) ∧ pw i * (e * Y) < pw 20 := by
            have h1 := abs_mul_lt (a := e) (b := Y) (p := 100000000) (q := pw ws.length) heB bw
            have h2 := mul_bd (a := pw i) (b := e * Y) (m := pw i) (n := 100000000 * pw ws.length - 1) (by have := pw_pos i; omega) (by omega)
            have e1 : pw i * (100000000 * pw ws.length - 1) = pw (i + 1) * pw ws.length - pw i := by rw [pw_succ]; grind
            rw [e1] at h2
            have h3 : pw (i + 1) * pw ws.length ≤ pw us.length * pw ws.length := Int.mul_le_mul_of_nonneg_right (pw_mono (by omega)) (by have := pw_pos ws.length; omega)
            have := pw_pos i
            omega
          have svr : SV H3 r (List.replicate i 0 ++ mulL e ws) (pw i * (e * Y)) := by
            refine ⟨hM3.sl, fun z hz => ?_, by simp [mulL]; omega, hrow, len_of hrb⟩
            rcases List.mem_append.1 hz with h | h
            · have := (List.mem_replicate.1 h).2
              unfold In64; omega
            · obtain ⟨f, hf, rfl⟩ := List.mem_map.1 h
              have hfB := sw f hf
              have := mul_bd (a := e) (b := f) (m := 100000000) (n := 100000000) (by omega) (by omega)
              unfold In64; omega
          have svo : SV H3 o (digits (val (us.take i) * Y)) (val (us.take i) * Y) := SV.of (ho.mono hk4) (bnd i hi)
          refine (radd_run S hR (H := H3) (by omega) svo svr).mono ?_
          rintro o2 H4 ⟨hM5, hn8⟩
          refine ⟨⟨by omega, by omega⟩, ?_⟩
          refine ⟨us.length - (i + 1), by omega, i + 1, _, o2, H4, _, rfl, rfl, rfl, rfl, rfl, rfl, rfl, rfl, by omega, ?_, by have := hM5.n; omega, fun A hA => by rw [hM5.keep A (by omega) (by omega), hk4 A (by omega)]; exact hk3 A hA, by omega⟩
          rw [val_take_snoc he, show (val (us.take i) + pw i * e) * Y = val (us.take i) * Y + pw i * (e * Y) by rw [Int.add_mul, Int.mul_assoc]]
          exact hM5.toSl
    · have hil : i = us.length := by omega
      subst hil
      exact fin o H' ho hn3 hk3 hn4
end Go.PI
/- The reference's Add, Neg, Sub, Sign, Mul for integers of up to 200 elements. -/
open Go.Proofs
namespace Go.PI
open IM
set_option maxRecDepth 10000
set_option maxHeartbeats 4000000
variable (S : FuncId → Option (List AV → Heap → Option (AV × Heap)))
structure SVB (H : Heap) (v : AV) (xs : List Int) (X : Int) : Prop where
  sl : Sl H v xs
  in64 : ∀ e ∈ xs, In64 e
  len : xs.length ≤ 200
  val : val xs = X
  dl : (digits X).length ≤ 200
theorem SVB.kp {H H' : Heap} {v : AV} {xs : List Int} {X : Int} {c : Nat} (h : SVB H v xs X) (k : Kp H H' c) : SVB H' v xs X := ⟨h.sl.kp k, h.in64, h.len, h.val, h.dl⟩
theorem SVB.of {H : Heap} {v : AV} {X : Int} (h : Sl H v (digits X)) (hb : -pw 200 < X ∧ X < pw 200) : SVB H v (digits X) X :=
  ⟨h, fun e he => by have := (nrm_digits X).sml' e he; unfold In64; omega, len_of hb, val_digits X, len_of hb⟩
theorem radd_runB (hR : OldR S) {H : Heap} {x y : AV} {xs ys : List Int} {X Y : Int} (hn : H.n + 100000 < lim) (hx : SVB H x xs X) (hy : SVB H y ys Y) :
    Cl (ctx.plus S) 75 [x, y] H fun r H' => Mine H H.n r (digits (X + Y)) H' ∧ H'.n ≤ H.n + 3000 := by
  refine cl_of hR.h75 fn75 ?_
  have hT : (ctx.plus S).ty = tget := rfl
  have lx := hx.len
  have ly := hy.len
  have dx := hx.dl
  have dy := hy.dl
  refine (rnormal_run S hR.h82 hR.h124 hR.h125 hR.h126 (by omega) hx.sl (by omega) hx.in64).mono ?_
  rw [hx.val]
  rintro a H1 ⟨hM1, hn1⟩
  have k1 := hM1.kp (c := 900) (by omega)
  have k1m := k1.m
  refine (rnormal_run S hR.h82 hR.h124 hR.h125 hR.h126 (H := H1) (by omega) (hy.sl.kp k1) (by omega) hy.in64).mono ?_
  rw [hy.val]
  rintro b H2 ⟨hM2, hn2⟩
  have k2 := hM2.kp (c := 900) (by omega)
  have k2m := k2.m
  have k1n := k1.n
  have k2n := k2.n
  have ha : Sl H2 a (digits X) := hM1.toSl.kp k2
  have hb : Sl H2 b (digits Y) := hM2.toSl
  obtain ⟨us, hus⟩ : ∃ us, digits X = us := ⟨_, rfl⟩
  obtain ⟨ws, hws⟩ : ∃ ws, digits Y = ws := ⟨_, rfl⟩
  have su := (nrm_digits X).sml'
  have sw := (nrm_digits Y).sml'
  have vu := val_digits X
  have vw := val_digits Y
  rw [hus] at ha su vu dx
  rw [hws] at hb sw vw dy
  have hsl := sumL_length us ws
  have hsb : ∀ e ∈ sumL us ws, -200000000 ≤ e ∧ e ≤ 200000000 := by
    intro e he
    obtain ⟨i, hi⟩ := List.getElem?_of_mem he
    have hlt := (List.getElem?_eq_some_iff.1 hi).1
    rw [sumL_get us ws i (by omega)] at hi
    have g1 : -100000000 < us.getD i 0 ∧ us.getD i 0 < 100000000 := by
      rw [List.getD_eq_getElem?_getD]
      cases h : us[i]? with
      | none => simp
      | some z => simpa using su z (List.mem_of_getElem? h)
    have g2 : -100000000 < ws.getD i 0 ∧ ws.getD i 0 < 100000000 := by
      rw [List.getD_eq_getElem?_getD]
      cases h : ws[i]? with
      | none => simp
      | some z => simpa using sw z (List.mem_of_getElem? h)
    cases hi
    omega
  refine ⟨fun m s => ∃ (i : Nat) (n : Int) (o : AV) (H' : Heap) (T : List AV),
    s = ⟨T, H', []⟩ ∧ T.length = 48 ∧ T.getD 0 undefA = a ∧ T.getD 1 undefA = b ∧ T.getD 5 undefA = o ∧ T.getD 6 undefA = iv n ∧ m = max us.length ws.length - i ∧ n = i ∧ i ≤ max us.length ws.length ∧ MN H2 o ((sumL us ws).take i) H' ∧ H'.n ≤ H2.n + 2 * i, ⟨max us.length ws.length, ?_⟩, ?_⟩
  · exact ⟨0, _, .nils, H2, _, rfl, rfl, rfl, rfl, rfl, rfl, rfl, rfl, Nat.zero_le _, .inl ⟨rfl, rfl, Nat.le_refl _, fun _ _ => rfl⟩, by omega⟩
  · rintro m s ⟨i, n, o, H', T, rfl, hTl, h0t, h1t, h5t, h6t, rfl, rfl, hi, hM, hn'⟩
    obtain ⟨J, rfl⟩ : ∃ J : Nat → AV, T = [a, b, J 2, J 3, J 4, o, iv i, J 7, J 8, J 9, J 10, J 11, J 12, J 13, J 14, J 15, J 16, J 17, J 18, J 19, J 20, J 21, J 22, J 23, J 24, J 25, J 26, J 27, J 28, J 29, J 30, J 31, J 32, J 33, J 34, J 35, J 36, J 37, J 38, J 39, J 40, J 41, J 42, J 43, J 44, J 45, J 46, J 47] := ⟨fun i => T.getD i undefA, (ex48 T hTl).trans (by rw [h0t, h1t, h5t, h6t])⟩
    clear hTl h0t h1t h5t h6t
    have ha' : Sl H' a us := ha.mono hM.keep
    have hb' : Sl H' b ws := hb.mono hM.keep
    have step : ∀ e : Int, e = us.getD i 0 + ws.getD i 0 → i < max us.length ws.length → ∃ r H3, appendE (ctx.plus S) [22, 22] o (.sl H'.n 0 1 1) (H'.push (.cells true 3 [iv e])) = some (r, H3) ∧ MN H2 r ((sumL us ws).take (i + 1)) H3 ∧ H3.n ≤ H2.n + 2 * (i + 1) := by
      intro e he hlt
      obtain ⟨r, H3, h1, h2, h3⟩ := append_mn hT (C := ctx.plus S) (e := e) (by omega) (by simp; omega) hM
      refine ⟨r, H3, h1, .inr ?_, by omega⟩
      have hg := sumL_get us ws i hlt
      rw [take_snoc hg, ← he]
      exact h2
    have gd : ∀ {zs : List Int} {j : Nat} {e : Int}, zs[j]? = some e → zs.getD j 0 = e := fun h => by rw [List.getD_eq_getElem?_getD, h]; rfl
    have gn : ∀ {zs : List Int} {j : Nat}, zs.length ≤ j → zs.getD j 0 = 0 := fun h => by rw [List.getD_eq_getElem?_getD, List.getElem?_eq_none h]; rfl
    have done : i = max us.length ws.length → ∀ r H3, Mine H' H'.n r (digits (val ((sumL us ws).take i))) H3 ∧ H3.n ≤ H'.n + 4 * ((sumL us ws).take i).length + 40 → Mine H H.n r (digits (X + Y)) H3 ∧ H3.n ≤ H.n + 3000 := by
      rintro he r H3 ⟨h1, h2⟩
      rw [List.take_of_length_le (by omega), sumL_val, vu, vw] at h1
      have hl2 : ((sumL us ws).take i).length ≤ 200 := by simp; omega
      refine ⟨h1.up (by have := hM.n; omega) (fun A hA => ?_), by omega⟩
      rw [hM.keep A (by omega), k2.get A (by omega), k1.get A hA]
    have fin : i = max us.length ws.length → Cl (ctx.plus S) 82 [o] H' fun r H3 => Mine H H.n r (digits (X + Y)) H3 ∧ H3.n ≤ H.n + 3000 := fun he =>
      (rnormal_run S hR.h82 hR.h124 hR.h125 hR.h126 (H := H') (by simp; omega) hM.rv.sl (by simp; omega) (fun e he => by have := hsb e (List.mem_of_mem_take he); unfold In64; omega)).mono (done he)
    refine ⟨_, len_sl hT (v := a) rfl ha', ?_⟩
    refine ⟨fun h1 => ?_, fun h1 => ?_⟩
    · obtain ⟨e, he⟩ : ∃ e, us[i]? = some e := ⟨us[i]'(by omega), List.getElem?_eq_getElem _⟩
      have heB := su e (List.mem_of_getElem? he)
      refine ⟨_, len_sl hT (v := a) rfl ha', ?_⟩
      refine ⟨fun _ => ?_, fun h => absurd h1 (by omega)⟩
      refine ⟨_, idx_sl hT (v := a) (n := (i : Int)) (k := i) rfl rfl ha' rfl (by omega), ?_⟩
      refine ⟨_, load_sl hT ha' he, ?_⟩
      refine ⟨_, len_sl hT (v := b) rfl hb', ?_⟩
      refine ⟨fun h2 => ?_, fun h2 => ?_⟩
      · obtain ⟨f, hf⟩ : ∃ e, ws[i]? = some e := ⟨ws[i]'(by omega), List.getElem?_eq_getElem _⟩
        have hfB := sw f (List.mem_of_getElem? hf)
        refine ⟨_, idx_sl hT (v := b) (n := (i : Int)) (k := i) rfl rfl hb' rfl (by omega), ?_⟩
        refine ⟨_, load_sl hT hb' hf, ?_⟩
        refine ⟨⟨by omega, by omega⟩, ?_⟩
        refine ⟨by omega, _, _, rfl, ?_⟩
        obtain ⟨r, H3, q1, q2, q3⟩ := step (e + f) (by rw [gd he, gd hf]) (by omega)
        refine ⟨r, H3, q1, ?_⟩
        refine ⟨⟨by omega, by omega⟩, ?_⟩
        exact ⟨max us.length ws.length - (i + 1), by omega, i + 1, _, r, H3, _, rfl, rfl, rfl, rfl, rfl, rfl, rfl, rfl, by omega, q2, q3⟩
      · refine ⟨by omega, _, _, rfl, ?_⟩
        obtain ⟨r, H3, q1, q2, q3⟩ := step e (by rw [gd he, gn (by omega)]; omega) (by omega)
        refine ⟨r, H3, q1, ?_⟩
        refine ⟨⟨by omega, by omega⟩, ?_⟩
        exact ⟨max us.length ws.length - (i + 1), by omega, i + 1, _, r, H3, _, rfl, rfl, rfl, rfl, rfl, rfl, rfl, rfl, by omega, q2, q3⟩
    · refine ⟨_, len_sl hT (v := b) rfl hb', ?_⟩
      refine ⟨fun h2 => ?_, fun h2 => ?_⟩
      · obtain ⟨f, hf⟩ : ∃ e, ws[i]? = some e := ⟨ws[i]'(by omega), List.getElem?_eq_getElem _⟩
        have hfB := sw f (List.mem_of_getElem? hf)
        refine ⟨_, len_sl hT (v := a) rfl ha', ?_⟩
        refine ⟨fun h => absurd h (by omega), fun _ => ?_⟩
        refine ⟨_, len_sl hT (v := b) rfl hb', ?_⟩
        refine ⟨fun _ => ?_, fun h => absurd h2 (by omega)⟩
        refine ⟨_, idx_sl hT (v := b) (n := (i : Int)) (k := i) rfl rfl hb' rfl (by omega), ?_⟩
        refine ⟨_, load_sl hT hb' hf, ?_⟩
        refine ⟨⟨by omega, by omega⟩, ?_⟩
        refine ⟨by omega, _, _, rfl, ?_⟩
        obtain ⟨r, H3, q1, q2, q3⟩ := step (0 + f) (by rw [gd hf, gn (by omega)]) (by omega)
        refine ⟨r, H3, q1, ?_⟩
        refine ⟨⟨by omega, by omega⟩, ?_⟩
        exact ⟨max us.length ws.length - (i + 1), by omega, i + 1, _, r, H3, _, rfl, rfl, rfl, rfl, rfl, rfl, rfl, rfl, by omega, q2, q3⟩
      · exact fin (by omega)
theorem rneg_runB (hR : OldR S) {H : Heap} {x : AV} {xs : List Int} {X : Int} (hn : H.n + 100000 < lim) (hx : SVB H x xs X) :
    Cl (ctx.plus S) 118 [x] H fun r H' => Mine H H.n r (digits (-X)) H' ∧ H'.n ≤ H.n + 900 := by
  refine cl_of hR.h118 fn118 ?_
  have lx := hx.len
  have dx := hx.dl
  refine (rnormal_run S hR.h82 hR.h124 hR.h125 hR.h126 (by omega) hx.sl (by omega) hx.in64).mono ?_
  rw [hx.val]
  rintro a H1 ⟨hM1, hn1⟩
  have hs := (nrm_digits X).sml'
  refine (signed_run S hR.h126 hR.h125 (H := H1) (β := true) (by omega) hM1.rv (by omega) (fun e he => by have := hs e he; unfold In64; omega)).mono ?_
  rintro r H2 ⟨h, hm⟩
  rw [if_pos rfl, trim_of_top (nrm_digits X).2] at h
  unfold negL at h
  rw [negd] at h
  exact ⟨h.up hM1.n (fun A hA => hM1.keep A hA (by omega)), by omega⟩
theorem rsub_runB (hR : OldR S) {H : Heap} {x y : AV} {xs ys : List Int} {X Y : Int} (hn : H.n + 200000 < lim) (hx : SVB H x xs X) (hy : SVB H y ys Y) :
    Cl (ctx.plus S) 90 [x, y] H fun r H' => Mine H H.n r (digits (X - Y)) H' ∧ H'.n ≤ H.n + 4000 := by
  refine cl_of hR.h90 fn90 ?_
  refine (rneg_runB S hR (by omega) hy).mono ?_
  rintro b H1 ⟨hM1, hn1⟩
  have k1 := hM1.kp hn1
  have hl : (digits (-Y)).length ≤ 200 := by
    have h := negd Y
    have h2 := congrArg List.length h
    simp at h2
    have := hy.dl
    omega
  have hs := (nrm_digits (-Y)).sml'
  refine (radd_runB S hR (H := H1) (x := x) (y := b) (Y := -Y) (by omega) (hx.kp k1) ⟨hM1.toSl, fun e he => by have := hs e he; unfold In64; omega, hl, val_digits _, hl⟩).mono ?_
  rintro r H2 ⟨h, hm⟩
  rw [show X + -Y = X - Y by omega] at h
  exact ⟨h.up hM1.n (fun A hA => hM1.keep A hA (by omega)), by omega⟩
end Go.PI
