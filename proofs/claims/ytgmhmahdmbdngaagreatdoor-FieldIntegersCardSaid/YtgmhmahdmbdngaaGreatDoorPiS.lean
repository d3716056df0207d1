/- Own work of the verifier, group PiS: IntMath2 IntMath3 PiDr2 PiRng. -/
import Derived.Test.YtgmhmahdmbdngaaGreatDoorPiI
import Derived.Test.YtgmhmahdmbdngaaGreatDoorPiO
import Derived.Test.YtgmhmahdmbdngaaGreatDoorPiJ
set_option linter.all false
set_option linter.deprecated false
/- MORE OF INTEGERS AS LISTS: digits of any integer, order, division. -/
namespace Go.PI.IM

theorem ilt_or (a b : Int) : a < b ∨ b ≤ a := by omega
/-! ### the digits of any integer -/
theorem digF_ok (f : Nat) : ∀ n : Nat, n < 2 ^ (26 * f) → valN (digF f n) = n ∧ (∀ x ∈ digF f n, x < 100000000) ∧ TopN (digF f n) ∧ (n ≠ 0 → digF f n ≠ []) := by
  induction f with
  | zero => intro n h; simp at h; subst h; exact ⟨rfl, fun x hx => by simp [digF] at hx, fun t ht => by simp [digF] at ht, fun h => absurd rfl h⟩
  | succ f ih =>
    intro n h
    unfold digF
    by_cases h0 : n = 0
    · rw [if_pos h0]; exact ⟨by rw [h0]; rfl, fun x hx => (List.not_mem_nil hx).elim, fun t ht => by simp at ht, fun h => absurd h0 h⟩
    · rw [if_neg h0]
      have hb : n / 100000000 < 2 ^ (26 * f) := by
        rw [Nat.mul_add, Nat.pow_add] at h
        have : (2:Nat) ^ (26 * 1) = 67108864 := by decide
        rw [this] at h
        omega
      obtain ⟨h1, h2, h3, h4⟩ := ih (n / 100000000) hb
      refine ⟨by simp only [valN, h1]; omega, ?_, ?_, by simp⟩
      · intro x hx
        rcases List.mem_cons.1 hx with rfl | hx
        · omega
        · exact h2 x hx
      · intro t ht
        by_cases hz : n / 100000000 = 0
        · rw [hz] at ht
          have : digF f 0 = [] := by cases f <;> simp [digF]
          rw [this] at ht
          simp at ht
          omega
        · have hne := h4 hz
          rw [List.getLast?_cons_of_ne_nil hne] at ht
          exact h3 t ht
theorem digN_ok (n : Nat) : valN (digN n) = n ∧ (∀ x ∈ digN n, x < 100000000) ∧ TopN (digN n) := by
  have hb : n < 2 ^ (26 * (n.log2 / 26 + 1)) := by
    have h1 : n < 2 ^ (n.log2 + 1) := Nat.lt_log2_self
    exact Nat.lt_of_lt_of_le h1 (Nat.pow_le_pow_right (by decide) (by omega))
  obtain ⟨h1, h2, h3, -⟩ := digF_ok _ n hb
  exact ⟨h1, h2, h3⟩
theorem top_of_last {xs : List Int} (h : ∀ t, xs.getLast? = some t → t ≠ 0) : Top xs := by
  rcases List.eq_nil_or_concat xs with rfl | ⟨ys, t, rfl⟩
  · exact .inl rfl
  · exact .inr ⟨ys, t, by simp, h t (by simp)⟩
theorem digits_ok (v : Int) : val (digits v) = v ∧ Nrm (digits v) := by
  cases v with
  | ofNat n =>
    obtain ⟨h1, h2, h3⟩ := digN_ok n
    refine ⟨by simp only [digits]; rw [val_ofNat, h1]; rfl, .inl ?_, top_of_last ?_⟩
    · intro x hx
      obtain ⟨k, hk, rfl⟩ := List.mem_map.1 hx
      have := h2 k hk
      exact ⟨by simp, by simp; omega⟩
    · intro t ht
      simp only [digits, List.getLast?_map, Option.map_eq_some_iff] at ht
      obtain ⟨k, hk, rfl⟩ := ht
      have := h3 k hk
      simp; exact this
  | negSucc n =>
    obtain ⟨h1, h2, h3⟩ := digN_ok (n + 1)
    refine ⟨?_, .inr ?_, top_of_last ?_⟩
    · have hv : val ((digN (n + 1)).map fun k => - Int.ofNat k) = - (valN (digN (n + 1)) : Int) := by
        rw [← val_ofNat, ← val_neg, List.map_map]; rfl
      simp only [digits]
      rw [hv, h1]; omega
    · intro x hx
      obtain ⟨k, hk, rfl⟩ := List.mem_map.1 hx
      have := h2 k hk
      exact ⟨by simp; omega, by simp⟩
    · intro t ht
      simp only [digits, List.getLast?_map, Option.map_eq_some_iff] at ht
      obtain ⟨k, hk, rfl⟩ := ht
      have := h3 k hk
      simp; exact this
theorem val_digits (v : Int) : val (digits v) = v := (digits_ok v).1
theorem nrm_digits (v : Int) : Nrm (digits v) := (digits_ok v).2
theorem digits_inj {v w : Int} (h : digits v = digits w) : v = w := by rw [← val_digits v, h, val_digits]
theorem digits_nil {v : Int} : digits v = [] ↔ v = 0 := ⟨fun h => by rw [← val_digits v, h]; rfl, fun h => by subst h; rfl⟩

/-! ### lists of digits -/
def Dig (xs : List Int) : Prop := ∀ x ∈ xs, 0 ≤ x ∧ x < 100000000
theorem Dig.val {xs : List Int} (h : Dig xs) : 0 ≤ IM.val xs ∧ IM.val xs < pw xs.length := by
  induction xs with
  | nil => exact ⟨Int.le_refl _, by decide⟩
  | cons x xs ih =>
    have h1 := h x (by simp)
    have h2 := ih fun y hy => h y (by simp [hy])
    simp only [IM.val, List.length_cons, pw]
    omega
theorem Dig.nrm {xs : List Int} (h : Dig xs) (ht : Top xs) : Nrm xs := ⟨.inl fun x hx => h x hx, ht⟩
theorem Dig.trim {xs : List Int} (h : Dig xs) : trimL xs = digits (IM.val xs) := by
  rw [← digits_val (Dig.nrm (fun x hx => h x (trim_mem xs x hx)) (trim_top xs)), trim_val]
theorem Dig.sub {xs ys : List Int} (h : Dig ys) (k : ∀ x ∈ xs, x ∈ ys) : Dig xs := fun x hx => h x (k x hx)
theorem val_neg' (xs : List Int) : val (xs.map fun x => -x) = - val xs := val_neg xs
theorem nrm_pos {xs : List Int} (h : Nrm xs) (hp : 0 ≤ val xs) : Dig xs := by
  obtain ⟨h1 | h1, h2⟩ := h
  · exact fun x hx => h1 x hx
  · have hd : Dig (xs.map fun x => -x) := fun x hx => by
      obtain ⟨y, hy, rfl⟩ := List.mem_map.1 hx
      have := h1 y hy; omega
    have hv := hd.val
    rw [val_neg] at hv
    have h0 : val xs = 0 := by omega
    have := digits_val ⟨.inr h1, h2⟩
    rw [h0] at this
    rw [← this]
    intro x hx; simp [digits, digN, digF] at hx
theorem nrm_neg {xs : List Int} (h : Nrm xs) : Nrm (xs.map fun x => -x) := by
  obtain ⟨h1, h2⟩ := h
  refine ⟨?_, ?_⟩
  · rcases h1 with h1 | h1
    · refine .inr fun x hx => ?_
      obtain ⟨y, hy, rfl⟩ := List.mem_map.1 hx
      have := h1 y hy; omega
    · refine .inl fun x hx => ?_
      obtain ⟨y, hy, rfl⟩ := List.mem_map.1 hx
      have := h1 y hy; omega
  · rcases h2 with rfl | ⟨ys, t, rfl, ht⟩
    · exact .inl rfl
    · exact .inr ⟨ys.map (fun x => -x), -t, by simp, by omega⟩
theorem negd (v : Int) : (digits v).map (fun x => -x) = digits (-v) := by
  rw [← digits_val (nrm_neg (nrm_digits v)), val_neg, val_digits]
/-- the top of a list that is not empty bounds its value -/
theorem val_top {ys : List Int} {t : Int} (h : Dig ys) : pw ys.length * t ≤ val (ys ++ [t]) ∧ val (ys ++ [t]) < pw ys.length * (t + 1) := by
  have := h.val
  rw [val_append]
  simp only [val]
  rw [Int.mul_add, Int.mul_add]
  omega
theorem pw_succ (n : Nat) : pw (n + 1) = 100000000 * pw n := rfl
theorem pw_mono {m n : Nat} (h : m ≤ n) : pw m ≤ pw n := by
  obtain ⟨k, rfl⟩ : ∃ k, n = m + k := ⟨n - m, by omega⟩
  rw [pw_add]
  have := pw_pos m; have := pw_pos k
  have := Int.mul_le_mul_of_nonneg_left (show 1 ≤ pw k by omega) (show 0 ≤ pw m by omega)
  omega
/-- a positive normal list has a value of its length -/
theorem nrm_len {xs : List Int} (h : Dig xs) (ht : Top xs) (hne : xs ≠ []) : pw (xs.length - 1) ≤ val xs ∧ val xs < pw xs.length := by
  refine ⟨?_, h.val.2⟩
  rcases ht with rfl | ⟨ys, t, rfl, h0⟩
  · exact absurd rfl hne
  · have hd : Dig ys := fun x hx => h x (by simp [hx])
    have := (val_top (t := t) hd).1
    have ht := h t (by simp)
    have hp := pw_pos ys.length
    simp only [List.length_append, List.length_singleton, Nat.add_sub_cancel]
    have : pw ys.length * 1 ≤ pw ys.length * t := Int.mul_le_mul_of_nonneg_left (by omega) (by omega)
    omega

/-! ### comparison -/
def cmpI (a b : Int) : Int := if a < b then -1 else if b < a then 1 else 0
theorem cmpI_self (a : Int) : cmpI a a = 0 := by unfold cmpI; rw [if_neg (by omega), if_neg (by omega)]
theorem cmpI_swap (a b : Int) : cmpI a b = - cmpI b a := by
  unfold cmpI; split <;> split <;> first | (exfalso; omega) | (split <;> first | rfl | omega) | rfl
theorem cmp_first {lo lo' hi : List Int} {e e' : Int} (hl : lo.length = lo'.length) (hne : e ≠ e') (hlo : (Dig lo ∧ Dig lo') ∨ (Dig (lo.map fun x => -x) ∧ Dig (lo'.map fun x => -x))) : cmpI (val (lo ++ e :: hi)) (val (lo' ++ e' :: hi)) = cmpI e e' := by
  rw [val_append, val_append, ← hl]
  simp only [val]
  have hp := pw_pos lo.length
  have hb : -pw lo.length < val lo - val lo' ∧ val lo - val lo' < pw lo.length := by
    rcases hlo with ⟨h1, h2⟩ | ⟨h1, h2⟩
    · have := h1.val; have := h2.val; rw [← hl] at this; omega
    · have := h1.val; have := h2.val; rw [val_neg, List.length_map] at *; rw [← hl] at this; omega
  generalize val lo = a at *
  generalize val lo' = b at *
  generalize pw lo.length = p at *
  generalize 100000000 * val hi = c
  rw [Int.mul_add, Int.mul_add]
  rcases Int.lt_or_gt_of_ne hne with h | h
  · have : p * e + p ≤ p * e' := by
      have := Int.mul_le_mul_of_nonneg_left (show e + 1 ≤ e' by omega) (show (0:Int) ≤ p by omega)
      rw [Int.mul_add] at this; omega
    unfold cmpI
    rw [if_pos (by omega), if_pos h]
  · have : p * e' + p ≤ p * e := by
      have := Int.mul_le_mul_of_nonneg_left (show e' + 1 ≤ e by omega) (show (0:Int) ≤ p by omega)
      rw [Int.mul_add] at this; omega
    unfold cmpI
    rw [if_neg (by omega), if_pos (by omega), if_neg (by omega), if_pos h]

/-! ### a digit of a quotient -/
structure Dgt (P l2 lv u0 u1 u2 v1 v2 : Int) : Prop where
  hP : 0 < P
  hl2 : 0 ≤ l2 ∧ l2 < P
  hlv : 0 ≤ lv ∧ lv < P
  hu0 : 0 ≤ u0 ∧ u0 < 100000000
  hu1 : 0 ≤ u1 ∧ u1 < 100000000
  hu2 : 0 ≤ u2 ∧ u2 < 100000000
  hv1 : 50000000 ≤ v1 ∧ v1 < 100000000
  hv2 : 0 ≤ v2 ∧ v2 < 100000000
  hlt : l2 + P * (u2 + 100000000 * (u1 + 100000000 * u0)) < 100000000 * (lv + P * (v2 + 100000000 * v1))
section
variable {P l2 lv u0 u1 u2 v1 v2 : Int} (D : Dgt P l2 lv u0 u1 u2 v1 v2)
include D
theorem Dgt.u0_le : u0 ≤ v1 := by
  obtain ⟨hP, h1, h2, h3, h4, h5, h6, h7, h8⟩ := D
  rcases ilt_or v1 u0 with h | h
  · exfalso
    have e1 : P * (u2 + 100000000 * (u1 + 100000000 * u0)) ≥ P * (100000000 * (100000000 * (v1 + 1))) := Int.mul_le_mul_of_nonneg_left (by omega) (by omega)
    have e2 : P * (v2 + 100000000 * v1) ≤ P * (100000000 * (v1 + 1) - 1) := Int.mul_le_mul_of_nonneg_left (by omega) (by omega)
    have e3 : P * (100000000 * (100000000 * (v1 + 1))) = 100000000 * (P * (100000000 * (v1 + 1))) := by grind
    have e4 : P * (100000000 * (v1 + 1) - 1) = P * (100000000 * (v1 + 1)) - P := by grind
    omega
  · exact h
/-- the first guess is not too small -/
theorem Dgt.start {g r : Int} (hg : g * v1 + r = u0 * 100000000 + u1) (hr : 0 ≤ r ∧ r < v1) : l2 + P * (u2 + 100000000 * (u1 + 100000000 * u0)) < (g + 1) * (lv + P * (v2 + 100000000 * v1)) ∧ 0 ≤ g ∧ g ≤ 100000001 := by
  have hle := D.u0_le
  obtain ⟨hP, h1, h2, h3, h4, h5, h6, h7, h8⟩ := D
  have hg0 : 0 ≤ g := by
    rcases ilt_or g 0 with h | h
    · exfalso
      have : g * v1 ≤ (-1) * v1 := Int.mul_le_mul_of_nonneg_right (by omega) (by omega)
      omega
    · exact h
  refine ⟨?_, hg0, ?_⟩
  · have e1 : (u1 + 100000000 * u0) + 1 ≤ (g + 1) * v1 := by grind
    have e2 : P * (u2 + 100000000 * (u1 + 100000000 * u0)) + P ≤ P * (100000000 * ((g + 1) * v1)) := by
      have := Int.mul_le_mul_of_nonneg_left (show u2 + 100000000 * (u1 + 100000000 * u0) + 1 ≤ 100000000 * ((g + 1) * v1) by omega) (show (0:Int) ≤ P by omega)
      rw [Int.mul_add] at this; omega
    have e3 : P * (100000000 * ((g + 1) * v1)) ≤ (g + 1) * (lv + P * (v2 + 100000000 * v1)) := by
      have e4 : (g + 1) * (P * (100000000 * v1)) ≤ (g + 1) * (lv + P * (v2 + 100000000 * v1)) := by
        refine Int.mul_le_mul_of_nonneg_left ?_ (by omega)
        have : 0 ≤ P * v2 := Int.mul_nonneg (by omega) (by omega)
        rw [Int.mul_add]; omega
      have e5 : P * (100000000 * ((g + 1) * v1)) = (g + 1) * (P * (100000000 * v1)) := by grind
      omega
    omega
  · rcases ilt_or 100000001 g with h | h
    · exfalso
      have e1 : 100000002 * v1 ≤ g * v1 := Int.mul_le_mul_of_nonneg_right (by omega) (by omega)
      omega
    · exact h
/-- a guess that is found too large -/
theorem Dgt.down {g r : Int} (hg : g * v1 + r = u0 * 100000000 + u1) (hr : 0 ≤ r) (hg0 : 0 ≤ g) (h : 100000000 ≤ g ∨ r * 100000000 + u2 < g * v2) : l2 + P * (u2 + 100000000 * (u1 + 100000000 * u0)) < g * (lv + P * (v2 + 100000000 * v1)) ∧ 1 ≤ g := by
  obtain ⟨hP, h1, h2, h3, h4, h5, h6, h7, h8⟩ := D
  have hV : 0 ≤ lv + P * (v2 + 100000000 * v1) := by
    have : 0 ≤ P * (v2 + 100000000 * v1) := Int.mul_nonneg (by omega) (by omega)
    omega
  rcases h with h | h
  · refine ⟨?_, by omega⟩
    have := Int.mul_le_mul_of_nonneg_right h hV
    omega
  · have hg1 : 1 ≤ g := by
      rcases ilt_or g 1 with h' | h'
      · have : g = 0 := by omega
        subst this
        omega
      · exact h'
    refine ⟨?_, hg1⟩
    have e1 : P * (u2 + 100000000 * (u1 + 100000000 * u0)) + P ≤ P * (g * (v2 + 100000000 * v1)) := by
      have := Int.mul_le_mul_of_nonneg_left (show u2 + 100000000 * (u1 + 100000000 * u0) + 1 ≤ g * (v2 + 100000000 * v1) by grind) (show (0:Int) ≤ P by omega)
      rw [Int.mul_add] at this; omega
    have e2 : g * (lv + P * (v2 + 100000000 * v1)) = g * lv + P * (g * (v2 + 100000000 * v1)) := by grind
    have e3 : 0 ≤ g * lv := Int.mul_nonneg (by omega) (by omega)
    omega
/-- a guess that is kept -/
theorem Dgt.keep {g r : Int} (hg : g * v1 + r = u0 * 100000000 + u1) (hr : 0 ≤ r) (hg0 : 0 ≤ g) (h : 100000000 ≤ r ∨ (g < 100000000 ∧ g * v2 ≤ r * 100000000 + u2)) :
    g < 100000000 ∧ g * (lv + P * (v2 + 100000000 * v1)) ≤ l2 + P * (u2 + 100000000 * (u1 + 100000000 * u0)) + (lv + P * (v2 + 100000000 * v1)) := by
  have hle := D.u0_le
  obtain ⟨hP, h1, h2, h3, h4, h5, h6, h7, h8⟩ := D
  have hgB : g < 100000000 := by
    rcases h with h | h
    · rcases ilt_or g 100000000 with h' | h'
      · exact h'
      · exfalso
        have := Int.mul_le_mul_of_nonneg_right h' (show (0:Int) ≤ v1 by omega)
        omega
    · exact h.1
  have hk : g * v2 ≤ r * 100000000 + u2 := by
    rcases h with h | h
    · have e1 : g * v2 ≤ 99999999 * v2 := Int.mul_le_mul_of_nonneg_right (by omega) (by omega)
      omega
    · exact h.2
  refine ⟨hgB, ?_⟩
  have e1 : P * (g * (v2 + 100000000 * v1)) ≤ P * (u2 + 100000000 * (u1 + 100000000 * u0)) := Int.mul_le_mul_of_nonneg_left (by grind) (by omega)
  have e2 : g * (lv + P * (v2 + 100000000 * v1)) = g * lv + P * (g * (v2 + 100000000 * v1)) := by grind
  have e3 : g * lv ≤ 99999999 * P := by
    have a1 : g * lv ≤ g * P := Int.mul_le_mul_of_nonneg_left (by omega) hg0
    have a2 : g * P ≤ 99999999 * P := Int.mul_le_mul_of_nonneg_right (by omega) (by omega)
    omega
  have e4 : P * (100000000 * 50000000) ≤ P * (v2 + 100000000 * v1) := Int.mul_le_mul_of_nonneg_left (by omega) (by omega)
  omega
end
end Go.PI.IM

/- EUCLID'S ALGORITHM BY THE FIRST ELEMENTS (LEHMER). -/
namespace Go.PI.IM

structure Leh (P tX tY U V a b c d u v : Int) : Prop where
  hP : 0 < P
  hX : 0 ≤ tX ∧ tX < P
  hY : 0 ≤ tY ∧ tY < P
  hU : 0 ≤ U ∧ U ≤ 10000000000000000
  hV : 0 ≤ V ∧ V ≤ 10000000000000000
  hu : u = a * U + b * V
  hv : v = c * U + d * V
  hs : (0 ≤ a ∧ b ≤ 0 ∧ c ≤ 0 ∧ 0 ≤ d ∧ a * d - b * c = 1) ∨ (a ≤ 0 ∧ 0 ≤ b ∧ 0 ≤ c ∧ d ≤ 0 ∧ a * d - b * c = -1)
  hk : 0 ≤ u + a ∧ 0 ≤ u + b ∧ 0 ≤ v + c ∧ 0 ≤ v + d
  ha : -100000000 ≤ a ∧ a ≤ 100000000
  hb : -100000000 ≤ b ∧ b ≤ 100000000
  hc : -100000000 ≤ c ∧ c ≤ 100000000
  hd : -100000000 ≤ d ∧ d ≤ 100000000
  hu2 : 0 ≤ u ∧ u ≤ 10000000000000000
  hv2 : 0 ≤ v ∧ v ≤ 10000000000000000
  hXY : 0 ≤ c * (tX + P * U) + d * (tY + P * V) ∧ c * (tX + P * U) + d * (tY + P * V) ≤ a * (tX + P * U) + b * (tY + P * V)
  hpr : (a = 1 ∧ b = 0 ∧ c = 0 ∧ d = 1) ∨ (2 * ((a * (tX + P * U) + b * (tY + P * V)) * (c * (tX + P * U) + d * (tY + P * V))) ≤ (tX + P * U) * (tY + P * V) ∧ c * (tX + P * U) + d * (tY + P * V) < a * (tX + P * U) + b * (tY + P * V))
  hg : ∀ k : Int, (k ∣ a * (tX + P * U) + b * (tY + P * V) ∧ k ∣ c * (tX + P * U) + d * (tY + P * V)) ↔ (k ∣ tX + P * U ∧ k ∣ tY + P * V)

theorem leh_start {P tX tY U V : Int} (hP : 0 < P) (hX : 0 ≤ tX ∧ tX < P) (hY : 0 ≤ tY ∧ tY < P) (hU : 0 ≤ U ∧ U ≤ 10000000000000000) (hV : 0 ≤ V ∧ V ≤ 10000000000000000) (h : tY + P * V ≤ tX + P * U) : Leh P tX tY U V 1 0 0 1 U V := by
  have h0 : 0 ≤ P * V := Int.mul_nonneg (by omega) hV.1
  refine ⟨hP, hX, hY, hU, hV, by omega, by omega, .inl (by omega), by omega, by omega, by omega, by omega, by omega, hU, hV, by omega, .inl (by omega), fun k => ?_⟩
  simp only [Int.one_mul, Int.zero_mul, Int.add_zero, Int.zero_add]

theorem between {P a b tX tY u : Int} (hP : 0 < P) (hX : 0 ≤ tX ∧ tX < P) (hY : 0 ≤ tY ∧ tY < P) (ha : 0 ≤ a) (hb : b ≤ 0) : P * (u + b) ≤ P * u + a * tX + b * tY ∧ P * u + a * tX + b * tY ≤ P * (u + a) := by
  have e1 : 0 ≤ a * tX := Int.mul_nonneg ha hX.1
  have e2 : a * tX ≤ a * P := Int.mul_le_mul_of_nonneg_left (by omega) ha
  have e3 : 0 ≤ (-b) * tY := Int.mul_nonneg (by omega) hY.1
  have e4 : (-b) * tY ≤ (-b) * P := Int.mul_le_mul_of_nonneg_left (by omega) (by omega)
  rw [Int.neg_mul] at e3 e4
  rw [Int.neg_mul] at e4
  rw [Int.mul_add, Int.mul_add, Int.mul_comm P b, Int.mul_comm P a]
  omega

/-- a step of Euclid's, from bounds of quotient and remainder -/
theorem step_core {P X Y ul uh vl vh q : Int} (hP : 0 < P) (hq : 0 ≤ q) (hX : P * ul ≤ X ∧ X ≤ P * uh) (hY : P * vl ≤ Y ∧ Y ≤ P * vh) (h1 : q * vh ≤ ul) (h2 : uh + 1 ≤ (q + 1) * vl) : 0 ≤ X - q * Y ∧ X - q * Y < Y := by
  have e1 : q * Y ≤ q * (P * vh) := Int.mul_le_mul_of_nonneg_left hY.2 hq
  have e2 : P * (q * vh) ≤ P * ul := Int.mul_le_mul_of_nonneg_left h1 (by omega)
  have e3 : q * (P * vh) = P * (q * vh) := by grind
  have e4 : P * (uh + 1) ≤ P * ((q + 1) * vl) := Int.mul_le_mul_of_nonneg_left h2 (by omega)
  have e5 : (q + 1) * (P * vl) ≤ (q + 1) * Y := Int.mul_le_mul_of_nonneg_left hY.1 (by omega)
  have e6 : (q + 1) * (P * vl) = P * ((q + 1) * vl) := by grind
  have e7 : (q + 1) * Y = q * Y + Y := by grind
  rw [Int.mul_add] at e4
  omega

section
variable {P tX tY U V a b c d u v : Int} (L : Leh P tX tY U V a b c d u v)
include L
theorem Leh.det_u : (0 ≤ a → 0 ≤ d → b ≤ 0 → c ≤ 0 → a * d - b * c = 1 → d * u + (-b) * v = U ∧ a * v + (-c) * u = V) ∧ (a ≤ 0 → d ≤ 0 → 0 ≤ b → 0 ≤ c → a * d - b * c = -1 → (-d) * u + b * v = U ∧ (-a) * v + c * u = V) := by
  have hu := L.hu
  have hv := L.hv
  refine ⟨fun _ _ _ _ h => ⟨?_, ?_⟩, fun _ _ _ _ h => ⟨?_, ?_⟩⟩
  · have : d * u + (-b) * v = (a * d - b * c) * U := by rw [hu, hv]; grind
    rw [this, h, Int.one_mul]
  · have : a * v + (-c) * u = (a * d - b * c) * V := by rw [hu, hv]; grind
    rw [this, h, Int.one_mul]
  · have : (-d) * u + b * v = -((a * d - b * c) * U) := by rw [hu, hv]; grind
    rw [this, h]; omega
  · have : (-a) * v + c * u = -((a * d - b * c) * V) := by rw [hu, hv]; grind
    rw [this, h]; omega
/-- the products of the next step are small -/
theorem Leh.small {q : Int} (hq : 0 ≤ q) (hq2 : q ≤ u + a) (h3 : q * (v + c) ≤ u + a) : -20000000000000000 ≤ q * c ∧ q * c ≤ 20000000000000000 ∧ -20000000000000000 ≤ q * d ∧ q * d ≤ 20000000000000000 ∧ -100000000000000000 ≤ q * v ∧ q * v ≤ 100000000000000000 := by
  obtain ⟨g1, g2⟩ := L.det_u
  have ha := L.ha; have hb := L.hb; have hc := L.hc; have hd := L.hd
  have hu2 := L.hu2; have hv2 := L.hv2; have hU := L.hU; have hV := L.hV
  have key : ∀ w : Int, 0 ≤ w → w ≤ 100000000 → w * u ≤ 10000000000000000 → 0 ≤ q * w ∧ q * w ≤ 20000000000000000 := fun w hw hw2 hwu => by
    have e1 : q * w ≤ (u + a) * w := Int.mul_le_mul_of_nonneg_right hq2 hw
    have e2 : a * w ≤ 100000000 * w := Int.mul_le_mul_of_nonneg_right (by omega) hw
    have e3 : (u + a) * w = w * u + a * w := by grind
    have e4 : 0 ≤ q * w := Int.mul_nonneg hq hw
    omega
  have hqv : q * (v + c) = q * v + q * c := Int.mul_add _ _ _
  have hqv0 : 0 ≤ q * v := Int.mul_nonneg hq hv2.1
  rcases L.hs with ⟨s1, s2, s3, s4, s5⟩ | ⟨s1, s2, s3, s4, s5⟩
  · obtain ⟨e1, e2⟩ := g1 s1 s4 s2 s3 s5
    have p1 : 0 ≤ (-b) * v := Int.mul_nonneg (by omega) hv2.1
    have p2 : 0 ≤ a * v := Int.mul_nonneg s1 hv2.1
    have k1 := key (-c) (by omega) (by omega) (by omega)
    have k2 := key d (by omega) (by omega) (by omega)
    rw [Int.mul_neg] at k1
    omega
  · obtain ⟨e1, e2⟩ := g2 s1 s4 s2 s3 s5
    have p1 : 0 ≤ b * v := Int.mul_nonneg s2 hv2.1
    have p2 : 0 ≤ (-a) * v := Int.mul_nonneg (by omega) hv2.1
    have k1 := key c (by omega) (by omega) (by omega)
    have k2 := key (-d) (by omega) (by omega) (by omega)
    rw [Int.mul_neg] at k2
    omega
theorem Leh.rest {q : Int} (hq : 0 ≤ q) (h1 : q * (v + c) ≤ u + a) (h1' : u + a + 1 ≤ (q + 1) * (v + c)) (h2 : q * (v + d) ≤ u + b) (h2' : u + b + 1 ≤ (q + 1) * (v + d)) :
    0 ≤ (a * (tX + P * U) + b * (tY + P * V)) - q * (c * (tX + P * U) + d * (tY + P * V)) ∧ (a * (tX + P * U) + b * (tY + P * V)) - q * (c * (tX + P * U) + d * (tY + P * V)) < c * (tX + P * U) + d * (tY + P * V) := by
  have eX : a * (tX + P * U) + b * (tY + P * V) = P * u + a * tX + b * tY := by rw [L.hu]; grind
  have eX' : a * (tX + P * U) + b * (tY + P * V) = P * u + b * tY + a * tX := by rw [L.hu]; grind
  have eY : c * (tX + P * U) + d * (tY + P * V) = P * v + c * tX + d * tY := by rw [L.hv]; grind
  have eY' : c * (tX + P * U) + d * (tY + P * V) = P * v + d * tY + c * tX := by rw [L.hv]; grind
  rcases L.hs with ⟨s1, s2, s3, s4, s5⟩ | ⟨s1, s2, s3, s4, s5⟩
  · have b1 := between (u := u) L.hP L.hX L.hY s1 s2
    have b2 := between (u := v) L.hP L.hY L.hX s4 s3
    rw [← eX] at b1
    rw [← eY'] at b2
    exact step_core L.hP hq b1 b2 h2 h1'
  · have b1 := between (u := u) L.hP L.hY L.hX s2 s1
    have b2 := between (u := v) L.hP L.hX L.hY s3 s4
    rw [← eX'] at b1
    rw [← eY] at b2
    exact step_core L.hP hq b1 b2 h1 h2'
theorem Leh.step {q : Int} (hq : 0 ≤ q) (h1 : q * (v + c) ≤ u + a) (h1' : u + a + 1 ≤ (q + 1) * (v + c)) (h2 : q * (v + d) ≤ u + b) (h2' : u + b + 1 ≤ (q + 1) * (v + d))
    (hn : -100000000 ≤ a - q * c ∧ a - q * c ≤ 100000000) (hl : -100000000 ≤ b - q * d ∧ b - q * d ≤ 100000000) :
    Leh P tX tY U V c d (a - q * c) (b - q * d) v (u - q * v) ∧ (a - q * c) * (tX + P * U) + (b - q * d) * (tY + P * V) < c * (tX + P * U) + d * (tY + P * V) := by
  obtain ⟨r1, r2⟩ := L.rest hq h1 h1' h2 h2'
  have hR : (a - q * c) * (tX + P * U) + (b - q * d) * (tY + P * V) = (a * (tX + P * U) + b * (tY + P * V)) - q * (c * (tX + P * U) + d * (tY + P * V)) := by grind
  have hqv0 : 0 ≤ q * v := Int.mul_nonneg hq L.hv2.1
  have hk1 : 0 ≤ (u - q * v) + (a - q * c) := by
    have : q * (v + c) = q * v + q * c := Int.mul_add _ _ _
    omega
  have hk2 : 0 ≤ (u - q * v) + (b - q * d) := by
    have : q * (v + d) = q * v + q * d := Int.mul_add _ _ _
    omega
  have hu2 := L.hu2
  have hXY := L.hXY
  have hg := L.hg
  have hpr := L.hpr
  rw [← hR] at r1 r2
  have e4 : (a * (tX + P * U) + b * (tY + P * V)) * (c * (tX + P * U) + d * (tY + P * V)) ≤ (tX + P * U) * (tY + P * V) := by
    rcases hpr with ⟨rfl, rfl, rfl, rfl⟩ | ⟨h, -⟩
    · simp only [Int.one_mul, Int.zero_mul, Int.add_zero, Int.zero_add]; exact Int.le_refl _
    · have : 0 ≤ (a * (tX + P * U) + b * (tY + P * V)) * (c * (tX + P * U) + d * (tY + P * V)) := Int.mul_nonneg (by omega) hXY.1
      omega
  refine ⟨⟨L.hP, L.hX, L.hY, L.hU, L.hV, L.hv, ?_, ?_, ⟨L.hk.2.2.1, L.hk.2.2.2, hk1, hk2⟩, L.hc, L.hd, hn, hl, L.hv2, ?_, ⟨r1, Int.le_of_lt r2⟩, .inr ⟨?_, r2⟩, fun k => ?_⟩, r2⟩
  · rw [L.hu, L.hv]; grind
  · rcases L.hs with ⟨s1, s2, s3, s4, s5⟩ | ⟨s1, s2, s3, s4, s5⟩
    · have e1 : 0 ≤ q * (-c) := Int.mul_nonneg hq (by omega)
      have e2 : 0 ≤ q * d := Int.mul_nonneg hq s4
      rw [Int.mul_neg] at e1
      exact .inr ⟨s3, s4, by omega, by omega, by grind⟩
    · have e1 : 0 ≤ q * c := Int.mul_nonneg hq s3
      have e2 : 0 ≤ q * (-d) := Int.mul_nonneg hq (by omega)
      rw [Int.mul_neg] at e2
      exact .inl ⟨s3, s4, by omega, by omega, by grind⟩
  · refine ⟨?_, by omega⟩
    rcases L.hs with ⟨s1, s2, s3, s4, s5⟩ | ⟨s1, s2, s3, s4, s5⟩
    · have e1 : 0 ≤ q * d := Int.mul_nonneg hq s4
      omega
    · have e1 : 0 ≤ q * c := Int.mul_nonneg hq s3
      omega
  · rw [hR] at r1 r2 ⊢
    generalize a * (tX + P * U) + b * (tY + P * V) = X1 at *
    generalize c * (tX + P * U) + d * (tY + P * V) = Y1 at *
    have hq1 : 1 ≤ q := by
      rcases ilt_or q 1 with h | h
      · have : q = 0 := by omega
        subst this
        omega
      · exact h
    have e0 : 1 * Y1 ≤ q * Y1 := Int.mul_le_mul_of_nonneg_right hq1 hXY.1
    have e1 : 2 * (X1 - q * Y1) ≤ X1 := by omega
    have e2 : 2 * (Y1 * (X1 - q * Y1)) ≤ X1 * Y1 := by
      have := Int.mul_le_mul_of_nonneg_right e1 hXY.1
      have e3 : 2 * (X1 - q * Y1) * Y1 = 2 * (Y1 * (X1 - q * Y1)) := by grind
      omega
    omega
  · rw [hR, ← hg k]
    constructor
    · rintro ⟨g1, g2⟩
      refine ⟨?_, g1⟩
      have := Int.dvd_add g2 (Int.dvd_mul_of_dvd_right (b := q) g1)
      rwa [Int.sub_add_cancel] at this
    · rintro ⟨g1, g2⟩
      exact ⟨g2, Int.dvd_sub g1 (Int.dvd_mul_of_dvd_right (b := q) g2)⟩
end
end Go.PI.IM

/- OPEN REGIONS: what there was is there up to boundary c, and no load may come up behind it. -/
namespace Go.PI
def grC (H0 : Heap) (c : Nat) : List (List AV × Heap) → Nat → Prop
  | [], _ => True
  | x :: r, p => (match Nat.ble p c with
    | true => ∀ A, A < H0.n → x.2.get A = H0.get A
    | false => True) ∧ grC H0 c r (p + 1)
def noneFrom (C : Ctx) (ops : List Oper) (pre : List Nat) (i : Nat) : Nat → Nat → Bool
  | _, 0 => true
  | p, n + 1 => !(isBd C ops p && mayAt C ops pre i p ops 0) && noneFrom C ops pre i (p + 1) n
def lastOk2 (C : Ctx) (ops : List Oper) (pre : List Nat) (c m : Nat) : List Oper → Nat → Bool
  | [], _ => true
  | o :: os, i => (!isLoad o || (Nat.ble i c && noneFrom C ops pre i (c + 1) (m - c))) && lastOk2 C ops pre c m os (i + 1)
theorem none_of {C : Ctx} {ops : List Oper} {pre : List Nat} {i : Nat} : ∀ (n p : Nat), noneFrom C ops pre i p n = true → ∀ p', p ≤ p' → p' < p + n → (isBd C ops p' && mayAt C ops pre i p' ops 0) = false
  | 0, p, _, p', h1, h2 => by omega
  | n + 1, p, h, p', h1, h2 => by
    simp only [noneFrom, Bool.and_eq_true, Bool.not_eq_true'] at h
    by_cases hp : p' = p
    · subst hp; exact h.1
    · exact none_of n (p + 1) h.2 p' (by omega) (by omega)
theorem loadAts_of2 {C : Ctx} {ops : List Oper} {pre : List Nat} {i : Nat} {t : TypeId} {b off : Nat} {v : AV} {H0 : Heap} {c m : Nat} (hb : b < H0.n) (hl : loadE C t (.ptr b off) H0 = some v) (hs : v.same v = true)
    (hlast : ∀ p', c + 1 ≤ p' → p' ≤ m → (isBd C ops p' && mayAt C ops pre i p' ops 0) = false) :
    ∀ (tr : List (List AV × Heap)) (p : Nat), grC H0 c tr p → p + tr.length = m + 1 → loadAts C ops pre i t (.ptr b off) v tr p = true
  | [], _, _, _ => rfl
  | (T, H) :: r, p, hg, hp => by
    simp only [loadAts]
    simp at hp
    rw [loadAts_of2 hb hl hs hlast r (p + 1) hg.2 (by omega), Bool.and_true]
    cases hc : Nat.ble p c with
    | true =>
      have hg1 := hg.1
      rw [hc] at hg1
      rw [load_get (hg1 b hb), hl]
      simp [hs]
    | false =>
      have : ¬ p ≤ c := fun h => by rw [Nat.ble_eq_true_of_le h] at hc; cases hc
      rw [hlast p (by omega) (by omega)]
      simp
theorem loads_of2 {C : Ctx} {ops : List Oper} {pre : List Nat} {all : List (List AV × Heap)} {H0 : Heap} {c m : Nat} (hall : grC H0 c all 0) (hlen : all.length = m + 1) (hcm : c ≤ m) : ∀ (os : List Oper) (tr : List (List AV × Heap)) (i : Nat), ldsP C ops H0 os tr → grC H0 c tr i → lastOk2 C ops pre c m os i = true → loadsOk C ops pre all os tr i = true
  | [], tr, _, _, _, _ => by cases tr <;> rfl
  | o :: os, [], _, _, _, _ => rfl
  | o :: os, (T, H) :: tr, i, h, hg, hlast => by
    simp only [lastOk2, Bool.and_eq_true] at hlast
    simp only [loadsOk]
    rw [loads_of2 hall hlen hcm os tr (i + 1) h.2 hg.2 hlast.2, Bool.and_true]
    have h1 := h.1
    cases ho : o.op <;> simp only [ho] at h1 ⊢
    rename_i t x
    cases hw : Region.wanted o (ayielded ops T) with
    | false => simp
    | true =>
      simp only [hw] at h1
      obtain ⟨b, off, v, e1, e2, e3, e4⟩ := h1
      simp only [if_true, e1]
      have hl1 := hlast.1
      simp only [isLoad, ho, Bool.not_true, Bool.false_or, Bool.and_eq_true] at hl1
      have hg1 := hg.1
      rw [hl1.1] at hg1
      rw [load_get (hg1 b e2), e3]
      exact loadAts_of2 (m := m) e2 e3 e4 (fun p' q1 q2 => none_of _ _ hl1.2 p' q1 (by omega)) all 0 hall (by omega)
def growS2 (C : Ctx) (ops : List Oper) (c : Nat) : Bool := orderOk C ops (preList ops []) ops 0 && lastOk2 C ops (preList ops []) c ops.length ops 0 && noAlloc C ops && Nat.ble c ops.length
theorem draw_of2 {C : Ctx} {ops : List Oper} {tr : List (List AV × Heap)} (H0 : Heap) (c : Nat) (hs : growS2 C ops c = true) (hlen : tr.length = ops.length + 1) (hl : ldsP C ops H0 ops tr) (hg : grC H0 c tr 0) (hm : mnP tr) : drawOk C ops tr = true := by
  simp only [growS2, Bool.and_eq_true] at hs
  unfold drawOk
  simp only [hs.1.1.1, loads_of2 hg hlen (Nat.le_of_ble_eq_true hs.2) ops tr 0 hl hg hs.1.1.2, allocs_of ops tr 0 hs.1.2, mono_of hm, Bool.and_self]
/-! ### each load on its own: the boundaries at which it may come up, as lists of booleans -/
def atsP (b : Nat) (H0 : Heap) : List Bool → List (List AV × Heap) → Prop
  | true :: ms, x :: r => x.2.get b = H0.get b ∧ atsP b H0 ms r
  | false :: ms, _ :: r => atsP b H0 ms r
  | _, _ => True
def ldsM (C : Ctx) (ops : List Oper) (all : List (List AV × Heap)) : List (List Bool) → List Oper → List (List AV × Heap) → Prop
  | m :: ms, o :: os, (T, H) :: tr => (match o.op with
    | .load t x => (match Region.wanted o (ayielded ops T) with
      | true => ∃ b off v, opd T x = some (.ptr b off) ∧ loadE C t (.ptr b off) H = some v ∧ v.same v = true ∧ atsP b H m all
      | false => True)
    | _ => True) ∧ ldsM C ops all ms os tr
  | _, _, _ => True
def rowOk (C : Ctx) (ops : List Oper) (pre : List Nat) (i : Nat) : List Bool → Nat → Bool
  | [], p => Nat.beq p (ops.length + 1)
  | b :: bs, p => (!(isBd C ops p && mayAt C ops pre i p ops 0) || b) && rowOk C ops pre i bs (p + 1)
def msOk (C : Ctx) (ops : List Oper) (pre : List Nat) : List (List Bool) → List Oper → Nat → Bool
  | b :: bs, o :: os, i => (!isLoad o || rowOk C ops pre i b 0) && msOk C ops pre bs os (i + 1)
  | [], [], _ => true
  | _, _, _ => false
theorem loadAts_of3 {C : Ctx} {ops : List Oper} {pre : List Nat} {i : Nat} {t : TypeId} {b off : Nat} {v : AV} {H0 : Heap} (hl : loadE C t (.ptr b off) H0 = some v) (hs : v.same v = true) :
    ∀ (ms : List Bool) (tr : List (List AV × Heap)) (p : Nat), rowOk C ops pre i ms p = true → p + tr.length = ops.length + 1 → atsP b H0 ms tr → loadAts C ops pre i t (.ptr b off) v tr p = true
  | _, [], _, _, _, _ => rfl
  | [], (T, H) :: r, p, hr, hp, _ => by
    simp only [rowOk] at hr
    have := Nat.eq_of_beq_eq_true hr
    simp at hp; omega
  | m :: ms, (T, H) :: r, p, hr, hp, ha => by
    simp only [rowOk, Bool.and_eq_true] at hr
    simp only [loadAts]
    simp at hp
    cases m with
    | true =>
      rw [loadAts_of3 hl hs ms r (p + 1) hr.2 (by omega) ha.2, Bool.and_true, load_get ha.1, hl]
      simp [hs]
    | false =>
      rw [loadAts_of3 hl hs ms r (p + 1) hr.2 (by omega) ha, Bool.and_true]
      have h1 := hr.1
      rw [Bool.or_false] at h1
      rw [h1, Bool.true_or]
theorem loads_of3 {C : Ctx} {ops : List Oper} {pre : List Nat} {all : List (List AV × Heap)} (hlen : all.length = ops.length + 1) : ∀ (ms : List (List Bool)) (os : List Oper) (tr : List (List AV × Heap)) (i : Nat), msOk C ops pre ms os i = true → ldsM C ops all ms os tr → loadsOk C ops pre all os tr i = true
  | _, [], tr, _, _, _ => by cases tr <;> rfl
  | _, o :: os, [], _, _, _ => rfl
  | [], o :: os, (T, H) :: tr, i, hm, _ => by simp [msOk] at hm
  | m :: ms, o :: os, (T, H) :: tr, i, hm, h => by
    simp only [msOk, Bool.and_eq_true] at hm
    simp only [loadsOk]
    rw [loads_of3 hlen ms os tr (i + 1) hm.2 h.2, Bool.and_true]
    have h1 := h.1
    cases ho : o.op <;> simp only [ho] at h1 ⊢
    rename_i t x
    cases hw : Region.wanted o (ayielded ops T) with
    | false => simp
    | true =>
      simp only [hw] at h1
      obtain ⟨b, off, v, e1, e2, e3, e4⟩ := h1
      simp only [if_true, e1, e2]
      have hl1 := hm.1
      simp only [isLoad, ho, Bool.not_true, Bool.false_or] at hl1
      exact loadAts_of3 e2 e3 m all 0 hl1 (by omega) e4
def growS3 (C : Ctx) (ops : List Oper) (ms : List (List Bool)) : Bool := orderOk C ops (preList ops []) ops 0 && msOk C ops (preList ops []) ms ops 0 && noAlloc C ops
theorem draw_of3 {C : Ctx} {ops : List Oper} {tr : List (List AV × Heap)} (ms : List (List Bool)) (hs : growS3 C ops ms = true) (hlen : tr.length = ops.length + 1) (hl : ldsM C ops tr ms ops tr) (hm : mnP tr) : drawOk C ops tr = true := by
  simp only [growS3, Bool.and_eq_true] at hs
  unfold drawOk
  simp only [hs.1.1, loads_of3 hlen ms ops tr 0 hs.1.2 hl, allocs_of ops tr 0 hs.2, mono_of hm, Bool.and_self]
/-- the heap of the first n blocks -/
def Heap.upto (H : Heap) (n : Nat) : Heap := ⟨min n H.n, H.t⟩
theorem Heap.get_upto {H : Heap} {n A : Nat} (h : A < n) : (H.upto n).get A = H.get A := by
  unfold Heap.get Heap.upto
  simp only
  by_cases h1 : A < H.n
  · rw [if_pos (by omega), if_pos h1]
  · rw [if_neg (by omega), if_neg h1]
theorem Heap.lt_upto {H : Heap} {n A : Nat} (h : A < (H.upto n).n) : A < n ∧ A < H.n := by
  unfold Heap.upto at h
  simp only at h
  omega
end Go.PI

/- LOOPS OVER FUNCTIONS, BY OBLIGATIONS; OPEN REGIONS WITH SEVERAL STORES AT THE END. -/
open Go.Proofs
namespace Go.PI
open IM

theorem range_of {C : Ctx} {f : Operand} {ps : Array Tmp} {assign body : Code} {T : List AV} {H : Heap} {D : List Nat} {Q : Ex → St → Prop} {g : FuncId} {first caps : List AV}
    (hn : H.n + 1 < lim) (hf : opd T f = some (.fn g first caps)) (hg : (C.fn g).isNone = false)
    (h : Cl C g (first ++ [.yld (H.n + 1)] ++ caps) ((H.push .dfr).push (.loop { state := .ready, pending := none, tmps := T, params := ps, assign := assign, body := body, dfr := H.n })) fun _ H3 =>
      ∃ lp, H3.get (H.n + 1) = .loop lp ∧ lp.state ≠ .busy ∧
        match lp.pending with
        | none => Q .normal ⟨T, H3.set (H.n + 1) .dead, H.n :: D⟩
        | some c => Runs C none c ⟨T, H3.set (H.n + 1) .dead, H.n :: D⟩ Q) :
    ∃ n e s', rangeF C (ev C n) none f ps assign body ⟨T, H, D⟩ = some (e, s') ∧ Q e s' := by
  obtain ⟨n, v, H3, h1, lp, h2, h3, h4⟩ := h
  have hp : (H.push .dfr).n = H.n + 1 := rfl
  unfold call at h1
  cases hpend : lp.pending with
  | none =>
    rw [hpend] at h4
    refine ⟨n, _, _, ?_, h4⟩
    simp only [rangeF, hf, hg, startE, hp, h1, h2, hpend, if_neg h3]
    rw [if_neg (by omega)]
    simp
  | some c =>
    rw [hpend] at h4
    obtain ⟨m, e, s', g1, g2⟩ := h4
    refine ⟨max n m, e, s', ?_, g2⟩
    have h1' := callF_mono (C := C) (ev_mono (Nat.le_max_left n m)) h1
    simp only [rangeF, hf, hg, startE, hp, h1', h2, hpend, if_neg h3]
    rw [if_neg (by omega)]
    simpa using ev_mono (Nat.le_max_right n m) _ _ _ _ g1

/-- a call of the loop's body -/
theorem yield_of {C : Ctx} {H : Heap} {K : AV → Heap → Prop} {l : Nat} {us : List AV} {L : ALoop}
    (hL : H.get l = .loop L) (hlen : us.length = L.params.size) (hst : L.state = .ready)
    (h : Runs C (some l) L.assign ⟨foldPar L.tmps L.params.toList us, H, []⟩ fun e s1 => e = .normal ∧ s1.D = [] ∧ ∃ L1, s1.H.get l = .loop L1 ∧ L1.state = .ready ∧
      Runs C (some l) L.body ⟨s1.T, s1.H.set l (.loop { L1 with state := .busy }), []⟩ fun e s2 => s2.D = [] ∧ ∃ L2, s2.H.get l = .loop L2 ∧
        K (.bool e.jump.isNone) (s2.H.set l (.loop { L2 with state := if e.jump.isNone then .ready else .done, pending := e.jump }))) :
    ∃ n v H', yieldF (ev C n) l us H = some (v, H') ∧ K v H' := by
  obtain ⟨n1, e1, ⟨T1, H1, D1⟩, h1, rfl, rfl, L1, h2, h3, n2, e2, ⟨T2, H2, D2⟩, h4, h5, L2, h6, h7⟩ := h
  simp only at h2 h4 h5 h6 h7
  subst h5
  refine ⟨max n1 n2, _, _, ?_, h7⟩
  simp only [yieldF, hL, hlen, hst]
  rw [if_pos ⟨trivial, trivial⟩]
  rw [ev_mono (Nat.le_max_left n1 n2) _ _ _ _ h1]
  simp only [h2, h3]
  rw [ev_mono (Nat.le_max_right n1 n2) _ _ _ _ h4]
  simp only [h6, if_true]

/-! ### slices.Backward -/
set_option maxRecDepth 10000
set_option maxHeartbeats 1000000
theorem fn228 : ctx.fn 228 = some c228 := by kernel_rfl
theorem fn182 : ctx.fn 182 = some c182 := by kernel_rfl
variable (S : FuncId → Option (List AV → Heap → Option (AV × Heap)))
theorem backward_run (h182 : S 182 = none) {H : Heap} {v : AV} (hn : H.n + 2 < lim) : Cl (ctx.plus S) 182 [v] H fun r H' => r = .fn 228 [] [.ptr H.n 0] ∧ H' = H.push (.cells true 22 v.cells) := by
  refine cl_of h182 fn182 ?_
  refine ⟨by omega, ?_⟩
  refine ⟨_, rfl, ?_⟩
  exact ⟨rfl, rfl⟩

theorem back_run (h228 : S 228 = none) {H0 : Heap} {l b : Nat} {v : AV} {xs : List Int} (J : Nat → Heap → Prop) (R : Heap → Prop) (hlen : xs.length ≤ 1073741824)
    (hJ : ∀ k H, J k H → loadE (ctx.plus S) 22 (.ptr b 0) H = some v ∧ Sl H v xs)
    (hy : ∀ k e H, J (k + 1) H → xs[k]? = some e → ∃ n v' H', yieldF (ev (ctx.plus S) n) l [iv k, iv e] H = some (v', H') ∧ ((v' = .bool true ∧ J k H') ∨ (v' = .bool false ∧ R H')))
    (hend : ∀ H, J 0 H → R H) (h : J xs.length H0) : Cl (ctx.plus S) 228 [.yld l, .ptr b 0] H0 fun _ H' => R H' := by
  refine cl_of h228 fn228 ?_
  have hT : (ctx.plus S).ty = tget := rfl
  obtain ⟨hl, hs⟩ := hJ _ _ h
  refine ⟨v, hl, ?_⟩
  refine ⟨_, len_sl hT (v := v) rfl hs, ?_⟩
  refine ⟨⟨by omega, by omega⟩, ?_⟩
  refine ⟨fun m s => ∃ (k : Nat) (n : Int) (H' : Heap) (j2 j4 j5 j6 j7 j8 j9 j10 j11 j12 j13 j14 j15 j16 j17 j18 : AV),
    s = ⟨[.yld l, .ptr b 0, j2, iv n, j4, j5, j6, j7, j8, j9, j10, j11, j12, j13, j14, j15, j16, j17, j18], H', []⟩ ∧ m = k ∧ n = (k : Int) - 1 ∧ k ≤ xs.length ∧ J k H', ⟨xs.length, ?_⟩, ?_⟩
  · exact ⟨xs.length, _, H0, _, _, _, _, _, _, _, _, _, _, _, _, _, _, _, _, rfl, rfl, rfl, Nat.le_refl _, h⟩
  · rintro m s ⟨k, n, H', j2, j4, j5, j6, j7, j8, j9, j10, j11, j12, j13, j14, j15, j16, j17, j18, rfl, hm, rfl, hk, hJk⟩
    refine ⟨fun hge => ?_, fun hlt => ?_⟩
    · obtain ⟨k, rfl⟩ : ∃ j, k = j + 1 := ⟨k - 1, by omega⟩
      obtain ⟨hl', hs'⟩ := hJ _ _ hJk
      obtain ⟨e, he⟩ : ∃ e, xs[k]? = some e := ⟨xs[k]'(by omega), List.getElem?_eq_getElem _⟩
      have hk1 : ((k + 1 : Nat) : Int) - 1 = (k : Int) := by omega
      rw [hk1]
      refine ⟨v, hl', ?_⟩
      refine ⟨_, idx_sl hT (v := v) (n := (k : Int)) (k := k) rfl rfl hs' rfl (by omega), ?_⟩
      refine ⟨_, load_sl hT hs' he, ?_⟩
      obtain ⟨n, v', H2, hy1, hy2⟩ := hy k e H' hJk he
      refine ⟨n, v', H2, ?_, ?_⟩
      · simp only [effE, opd, opds]
        exact hy1
      · rcases hy2 with ⟨rfl, hJ2⟩ | ⟨rfl, hR⟩
        · refine ⟨⟨by omega, by omega⟩, ?_⟩
          exact ⟨k, by omega, k, _, H2, _, _, _, _, _, _, _, _, _, _, _, _, _, _, _, _, rfl, rfl, rfl, by omega, hJ2⟩
        · exact hR
    · have h0 : k = 0 := by omega
      subst h0
      exact hend _ hJk

/-- A loop over slices.Backward(v), v being a slice of xs that is not written into. -/
theorem range_back (h228 : S 228 = none) {f : Operand} {p q : Tmp} {assign body : Code} {T : List AV} {H1 : Heap} {D : List Nat} {Q : Ex → St → Prop} {b : Nat} {v : AV} {xs : List Int}
    (hn : H1.n + 2 < lim) (hf : opd T f = some (.fn 228 [] [.ptr b 0])) (hlen : xs.length ≤ 1073741824)
    (I : Nat → Heap → Prop)
    (hI : ∀ k H, I k H → loadE (ctx.plus S) 22 (.ptr b 0) H = some v ∧ Sl H v xs ∧ H.n < lim ∧ H1.n + 1 < H.n)
    (hfr : ∀ k H x H', I k H → Upd H (H1.n + 1) x H' → I k H')
    (h0 : ∀ H, H.n = H1.n + 2 → (∀ A, A < H1.n → H.get A = H1.get A) → H.get H1.n = .dfr → I xs.length H)
    (hstep : ∀ k e H L, I (k + 1) H → xs[k]? = some e → H.get (H1.n + 1) = .loop L →
      vC (ctx.plus S) (some (H1.n + 1)) assign ⟨(T.set p (iv k)).set q (iv e), H, []⟩ fun e1 s1 => e1 = .normal ∧ s1.D = [] ∧ s1.H = H ∧ ∀ H' L', Upd H (H1.n + 1) (.loop L') H' →
        vC (ctx.plus S) (some (H1.n + 1)) body ⟨s1.T, H', []⟩ fun e2 s2 => s2.D = [] ∧ s2.H.get (H1.n + 1) = .loop L' ∧ (match e2 with
          | .normal => I k s2.H
          | .goto _ => False
          | e2 => s2.H.n < lim ∧ H1.n + 1 < s2.H.n ∧ ∀ H3, Upd s2.H (H1.n + 1) .dead H3 → Q e2 ⟨T, H3, H1.n :: D⟩))
    (hend : ∀ H H3, I 0 H → Upd H (H1.n + 1) .dead H3 → Q .normal ⟨T, H3, H1.n :: D⟩) :
    ∃ n e s', rangeF (ctx.plus S) (ev (ctx.plus S) n) none f #[p, q] assign body ⟨T, H1, D⟩ = some (e, s') ∧ Q e s' := by
  have hT : (ctx.plus S).ty = tget := rfl
  refine range_of (by omega) hf (by show (ctx.fn 228).isNone = false; rw [fn228]; rfl) ?_
  have hp1 := Heap.get_push (H := H1) (b := .dfr) (by omega)
  have hpn : (H1.push .dfr).n = H1.n + 1 := rfl
  have hp2 := Heap.get_push (H := H1.push .dfr) (b := .loop { state := .ready, pending := none, tmps := T, params := #[p, q], assign := assign, body := body, dfr := H1.n }) (by omega)
  have hpn2 : ((H1.push .dfr).push (.loop { state := .ready, pending := none, tmps := T, params := #[p, q], assign := assign, body := body, dfr := H1.n })).n = H1.n + 2 := rfl
  generalize hL0 : ({ state := .ready, pending := none, tmps := T, params := #[p, q], assign := assign, body := body, dfr := H1.n } : ALoop) = L0 at hp2 hpn2 ⊢
  generalize (H1.push .dfr).push (.loop L0) = H2 at hp2 hpn2 ⊢
  rw [hpn] at hp2
  refine (back_run S h228 (l := H1.n + 1) (b := b) (v := v) (xs := xs) (fun k H => I k H ∧ H.get (H1.n + 1) = .loop L0)
    (fun H3 => ∃ lp, H3.get (H1.n + 1) = .loop lp ∧ lp.state ≠ .busy ∧ match lp.pending with
        | none => Q .normal ⟨T, H3.set (H1.n + 1) .dead, H1.n :: D⟩
        | some c => Runs (ctx.plus S) none c ⟨T, H3.set (H1.n + 1) .dead, H1.n :: D⟩ Q) hlen (fun k H h => ⟨(hI k H h.1).1, (hI k H h.1).2.1⟩) ?_ ?_ ?_).mono (fun _ _ h => h)
  · rintro k e H ⟨hIk, hl⟩ he
    obtain ⟨-, -, hHn, hHl⟩ := hI _ _ hIk
    refine yield_of (K := fun v' H' => (v' = .bool true ∧ I k H' ∧ H'.get (H1.n + 1) = .loop L0) ∨ (v' = .bool false ∧ ∃ lp, H'.get (H1.n + 1) = .loop lp ∧ lp.state ≠ .busy ∧ match lp.pending with
        | none => Q .normal ⟨T, H'.set (H1.n + 1) .dead, H1.n :: D⟩
        | some c => Runs (ctx.plus S) none c ⟨T, H'.set (H1.n + 1) .dead, H1.n :: D⟩ Q)) hl (by subst hL0; rfl) (by subst hL0; rfl) ?_
    have hs := hstep k e H L0 hIk he hl
    have h1 := vC_ok hs
    subst hL0
    refine h1.mono ?_
    rintro e1 ⟨T1, H1', D1⟩ ⟨rfl, rfl, rfl, h2⟩
    refine ⟨rfl, rfl, _, hl, rfl, ?_⟩
    have hU := upd_set (b := H1.n + 1) (x := .loop { state := .busy, pending := none, tmps := T, params := #[p, q], assign := assign, body := body, dfr := H1.n }) hHl hHn
    refine (vC_ok (h2 _ _ hU)).mono ?_
    rintro e2 ⟨T2, H2', D2⟩ ⟨rfl, h3, h4⟩
    refine ⟨rfl, _, h3, ?_⟩
    cases e2 with
    | normal =>
      obtain ⟨-, -, g1, g2⟩ := hI _ _ h4
      have hU2 := upd_set (b := H1.n + 1) (x := .loop { state := .ready, pending := none, tmps := T, params := #[p, q], assign := assign, body := body, dfr := H1.n }) g2 g1
      exact .inl ⟨rfl, hfr _ _ _ _ h4 hU2, hU2.at_⟩
    | goto g => exact h4.elim
    | exit i =>
      obtain ⟨g1, g2, g3⟩ := h4
      have hU2 := upd_set (b := H1.n + 1) (x := .loop { state := .done, pending := some (.exit i), tmps := T, params := #[p, q], assign := assign, body := body, dfr := H1.n }) g2 g1
      have hU3 := upd_set (b := H1.n + 1) (x := .dead) (by rw [hU2.n]; exact g2) (by rw [hU2.n]; exact g1)
      refine .inr ⟨rfl, _, hU2.at_, by simp, ?_⟩
      exact ⟨1, _, _, rfl, g3 _ (hU2.trans hU3)⟩
    | ret =>
      obtain ⟨g1, g2, g3⟩ := h4
      have hU2 := upd_set (b := H1.n + 1) (x := .loop { state := .done, pending := some .ret, tmps := T, params := #[p, q], assign := assign, body := body, dfr := H1.n }) g2 g1
      have hU3 := upd_set (b := H1.n + 1) (x := .dead) (by rw [hU2.n]; exact g2) (by rw [hU2.n]; exact g1)
      refine .inr ⟨rfl, _, hU2.at_, by simp, ?_⟩
      exact ⟨1, _, _, rfl, g3 _ (hU2.trans hU3)⟩
  · rintro H ⟨hI0, hl⟩
    obtain ⟨-, -, g1, g2⟩ := hI _ _ hI0
    refine ⟨L0, hl, by subst hL0; simp, ?_⟩
    have hU3 := upd_set (b := H1.n + 1) (x := .dead) g2 g1
    subst hL0
    exact hend _ _ hI0 hU3
  · refine ⟨h0 _ hpn2 (fun A hA => ?_) ?_, ?_⟩
    · rw [hp2, if_neg (by omega), hp1, if_neg (by omega)]
    · rw [hp2, if_neg (by omega), hp1, if_pos rfl]
    · rw [hp2, if_pos rfl]
end Go.PI

