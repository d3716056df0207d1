/- Own work of the verifier: IntMath2 IntMath3 CiSmall. -/
import Derived.Test.YtdflpkkgjppmgaaGreatCfAP
import Derived.Test.YtdflpkkgjppmgaaGreatCfAW
import Derived.Test.YtdflpkkgjppmgaaGreatCfAY
set_option linter.all false
set_option exponentiation.threshold 3000
set_option linter.deprecated false
/- MORE OF INTEGERS AS LISTS: digits of any integer, order, division. -/
namespace Go.PI.IM
theorem ilt_or (a b : Int) : a < b ∨ b ≤ a := by omega
theorem digF_ok (f : Nat) : ∀ n : Nat, n < 2 ^ (26 * f) → valN (digF f n) = n ∧ (∀ x ∈ digF f n, x < 100000000) ∧ TopN (digF f n) ∧ (n ≠ 0 → digF f n ≠ []) := by
  induction f with
  | zero => intro n h; simp at h; subst h; exact ⟨rfl, fun x hx => by simp [digF] at hx, fun t ht => by simp [digF] at ht, fun h => absurd rfl h⟩
  | succ f ih =>
    intro n h
    unfold digF
    by_cases h0 : n = 0
    · rw [if_pos h0]; exact ⟨by rw [h0]; rfl, fun x hx => (List.not_mem_nil hx).elim, fun t ht => by simp at ht, fun h => absurd h0 h⟩
    · rw [if_neg h0]
      have hb : n / 100000000 < 2 ^ (26 * f) := by
        rw [Nat.mul_add, Nat.pow_add] at h
        have : (2:Nat) ^ (26 * 1) = 67108864 := by decide
        rw [this] at h
        omega
      obtain ⟨h1, h2, h3, h4⟩ := ih (n / 100000000) hb
      refine ⟨by simp only [valN, h1]; omega, ?_, ?_, by simp⟩
      · intro x hx
        rcases List.mem_cons.1 hx with rfl | hx
        · omega
        · exact h2 x hx
      · intro t ht
        by_cases hz : n / 100000000 = 0
        · rw [hz] at ht
          have : digF f 0 = [] := by cases f <;> simp [digF]
          rw [this] at ht
          simp at ht
          omega
        · have hne := h4 hz
          rw [List.getLast?_cons_of_ne_nil hne] at ht
          exact h3 t ht
theorem digN_ok (n : Nat) : valN (digN n) = n ∧ (∀ x ∈ digN n, x < 100000000) ∧ TopN (digN n) := by
  have hb : n < 2 ^ (26 * (n.log2 / 26 + 1)) := by
    have h1 : n < 2 ^ (n.log2 + 1) := Nat.lt_log2_self
    exact Nat.lt_of_lt_of_le h1 (Nat.pow_le_pow_right (by decide) (by omega))
  obtain ⟨h1, h2, h3, -⟩ := digF_ok _ n hb
  exact ⟨h1, h2, h3⟩
theorem top_of_last {xs : List Int} (h : ∀ t, xs.getLast? = some t → t ≠ 0) : Top xs := by
  rcases List.eq_nil_or_concat xs with rfl | ⟨ys, t, rfl⟩
  · exact .inl rfl
  · exact .inr ⟨ys, t, by simp, h t (by simp)⟩
theorem digits_ok (v : Int) : val (digits v) = v ∧ Nrm (digits v) := by
  cases v with
  | ofNat n =>
    obtain ⟨h1, h2, h3⟩ := digN_ok n
    refine ⟨by simp only [digits]; rw [val_ofNat, h1]; rfl, .inl ?_, top_of_last ?_⟩
    · intro x hx
      obtain ⟨k, hk, rfl⟩ := List.mem_map.1 hx
      have := h2 k hk
      exact ⟨by simp, by simp; omega⟩
    · intro t ht
      simp only [digits, List.getLast?_map, Option.map_eq_some_iff] at ht
      obtain ⟨k, hk, rfl⟩ := ht
      have := h3 k hk
      simp; exact this
  | negSucc n =>
    obtain ⟨h1, h2, h3⟩ := digN_ok (n + 1)
    refine ⟨?_, .inr ?_, top_of_last ?_⟩
    · have hv : val ((digN (n + 1)).map fun k => - Int.ofNat k) = - (valN (digN (n + 1)) : Int) := by
        rw [← val_ofNat, ← val_neg, List.map_map]; rfl
      simp only [digits]
      rw [hv, h1]; omega
    · intro x hx
      obtain ⟨k, hk, rfl⟩ := List.mem_map.1 hx
      have := h2 k hk
      exact ⟨by simp; omega, by simp⟩
    · intro t ht
      simp only [digits, List.getLast?_map, Option.map_eq_some_iff] at ht
      obtain ⟨k, hk, rfl⟩ := ht
      have := h3 k hk
      simp; exact this
theorem val_digits (v : Int) : val (digits v) = v := (digits_ok v).1
theorem nrm_digits (v : Int) : Nrm (digits v) := (digits_ok v).2
theorem digits_nil {v : Int} : digits v = [] ↔ v = 0 := ⟨fun h => by rw [← val_digits v, h]; rfl, fun h => by subst h; rfl⟩
def Dig (xs : List Int) : Prop := ∀ x ∈ xs, 0 ≤ x ∧ x < 100000000
theorem Dig.val {xs : List Int} (h : Dig xs) : 0 ≤ IM.val xs ∧ IM.val xs < pw xs.length := by
  induction xs with
  | nil => exact ⟨Int.le_refl _, by decide⟩
  | cons x xs ih =>
    have h1 := h x (by simp)
    have h2 := ih fun y hy => h y (by simp [hy])
    simp only [IM.val, List.length_cons, pw]
    omega
theorem Dig.nrm {xs : List Int} (h : Dig xs) (ht : Top xs) : Nrm xs := ⟨.inl fun x hx => h x hx, ht⟩
theorem Dig.trim {xs : List Int} (h : Dig xs) : trimL xs = digits (IM.val xs) := by
  rw [← digits_val (Dig.nrm (fun x hx => h x (trim_mem xs x hx)) (trim_top xs)), trim_val]
theorem Dig.sub {xs ys : List Int} (h : Dig ys) (k : ∀ x ∈ xs, x ∈ ys) : Dig xs := fun x hx => h x (k x hx)
theorem nrm_pos {xs : List Int} (h : Nrm xs) (hp : 0 ≤ val xs) : Dig xs := by
  obtain ⟨h1 | h1, h2⟩ := h
  · exact fun x hx => h1 x hx
  · have hd : Dig (xs.map fun x => -x) := fun x hx => by
      obtain ⟨y, hy, rfl⟩ := List.mem_map.1 hx
      have := h1 y hy; omega
    have hv := hd.val
    rw [val_neg] at hv
    have h0 : val xs = 0 := by omega
    have := digits_val ⟨.inr h1, h2⟩
    rw [h0] at this
    rw [← this]
    intro x hx; simp [digits, digN, digF] at hx
theorem nrm_neg {xs : List Int} (h : Nrm xs) : Nrm (xs.map fun x => -x) := by
  obtain ⟨h1, h2⟩ := h
  refine ⟨?_, ?_⟩
  · rcases h1 with h1 | h1
    · refine .inr fun x hx => ?_
      obtain ⟨y, hy, rfl⟩ := List.mem_map.1 hx
      have := h1 y hy; omega
    · refine .inl fun x hx => ?_
      obtain ⟨y, hy, rfl⟩ := List.mem_map.1 hx
      have := h1 y hy; omega
  · rcases h2 with rfl | ⟨ys, t, rfl, ht⟩
    · exact .inl rfl
    · exact .inr ⟨ys.map (fun x => -x), -t, by simp, by omega⟩
theorem negd (v : Int) : (digits v).map (fun x => -x) = digits (-v) := by
  rw [← digits_val (nrm_neg (nrm_digits v)), val_neg, val_digits]
theorem val_top {ys : List Int} {t : Int} (h : Dig ys) : pw ys.length * t ≤ val (ys ++ [t]) ∧ val (ys ++ [t]) < pw ys.length * (t + 1) := by
  have := h.val
  rw [val_append]
  simp only [val]
  rw [Int.mul_add, Int.mul_add]
  omega
theorem pw_succ (n : Nat) : pw (n + 1) = 100000000 * pw n := rfl
theorem pw_mono {m n : Nat} (h : m ≤ n) : pw m ≤ pw n := by
  obtain ⟨k, rfl⟩ : ∃ k, n = m + k := ⟨n - m, by omega⟩
  rw [pw_add]
  have := pw_pos m; have := pw_pos k
  have := Int.mul_le_mul_of_nonneg_left (show 1 ≤ pw k by omega) (show 0 ≤ pw m by omega)
  omega
theorem nrm_len {xs : List Int} (h : Dig xs) (ht : Top xs) (hne : xs ≠ []) : pw (xs.length - 1) ≤ val xs ∧ val xs < pw xs.length := by
  refine ⟨?_, h.val.2⟩
  rcases ht with rfl | ⟨ys, t, rfl, h0⟩
  · exact absurd rfl hne
  · have hd : Dig ys := fun x hx => h x (by simp [hx])
    have := (val_top (t := t) hd).1
    have ht := h t (by simp)
    have hp := pw_pos ys.length
    simp only [List.length_append, List.length_singleton, Nat.add_sub_cancel]
    have : pw ys.length * 1 ≤ pw ys.length * t := Int.mul_le_mul_of_nonneg_left (by omega) (by omega)
    omega
def cmpI (a b : Int) : Int := if a < b then -1 else if b < a then 1 else 0
theorem cmpI_self (a : Int) : cmpI a a = 0 := by unfold cmpI; rw [if_neg (by omega), if_neg (by omega)]
theorem cmp_first {lo lo' hi : List Int} {e e' : Int} (hl : lo.length = lo'.length) (hne : e ≠ e') (hlo : (Dig lo ∧ Dig lo') ∨ (Dig (lo.map fun x => -x) ∧ Dig (lo'.map fun x => -x))) : cmpI (val (lo ++ e :: hi)) (val (lo' ++ e' :: hi)) = cmpI e e' := by
  rw [val_append, val_append, ← hl]
  simp only [val]
  have hp := pw_pos lo.length
  have hb : -pw lo.length < val lo - val lo' ∧ val lo - val lo' < pw lo.length := by
    rcases hlo with ⟨h1, h2⟩ | ⟨h1, h2⟩
    · have := h1.val; have := h2.val; rw [← hl] at this; omega
    · have := h1.val; have := h2.val; rw [val_neg, List.length_map] at *; rw [← hl] at this; omega
  generalize val lo = a at *
  generalize val lo' = b at *
  generalize pw lo.length = p at *
  generalize 100000000 * val hi = c
  rw [Int.mul_add, Int.mul_add]
  rcases Int.lt_or_gt_of_ne hne with h | h
  · have : p * e + p ≤ p * e' := by
      have := Int.mul_le_mul_of_nonneg_left (show e + 1 ≤ e' by omega) (show (0:Int) ≤ p by omega)
      rw [Int.mul_add] at this; omega
    unfold cmpI
    rw [if_pos (by omega), if_pos h]
  · have : p * e' + p ≤ p * e := by
      have := Int.mul_le_mul_of_nonneg_left (show e' + 1 ≤ e by omega) (show (0:Int) ≤ p by omega)
      rw [Int.mul_add] at this; omega
    unfold cmpI
    rw [if_neg (by omega), if_pos (by omega), if_neg (by omega), if_pos h]
structure Dgt (P l2 lv u0 u1 u2 v1 v2 : Int) : Prop where
  hP : 0 < P
  hl2 : 0 ≤ l2 ∧ l2 < P
  hlv : 0 ≤ lv ∧ lv < P
  hu0 : 0 ≤ u0 ∧ u0 < 100000000
  hu1 : 0 ≤ u1 ∧ u1 < 100000000
  hu2 : 0 ≤ u2 ∧ u2 < 100000000
  hv1 : 50000000 ≤ v1 ∧ v1 < 100000000
  hv2 : 0 ≤ v2 ∧ v2 < 100000000
  hlt : l2 + P * (u2 + 100000000 * (u1 + 100000000 * u0)) < 100000000 * (lv + P * (v2 + 100000000 * v1))
section
variable {P l2 lv u0 u1 u2 v1 v2 : Int} (D : Dgt P l2 lv u0 u1 u2 v1 v2)
include D
theorem Dgt.u0_le : u0 ≤ v1 := by
  obtain ⟨hP, h1, h2, h3, h4, h5, h6, h7, h8⟩ := D
  rcases ilt_or v1 u0 with h | h
  · exfalso
    have e1 : P * (u2 + 100000000 * (u1 + 100000000 * u0)) ≥ P * (100000000 * (100000000 * (v1 + 1))) := Int.mul_le_mul_of_nonneg_left (by omega) (by omega)
    have e2 : P * (v2 + 100000000 * v1) ≤ P * (100000000 * (v1 + 1) - 1) := Int.mul_le_mul_of_nonneg_left (by omega) (by omega)
    have e3 : P * (100000000 * (100000000 * (v1 + 1))) = 100000000 * (P * (100000000 * (v1 + 1))) := by grind
    have e4 : P * (100000000 * (v1 + 1) - 1) = P * (100000000 * (v1 + 1)) - P := by grind
    omega
  · exact h
theorem Dgt.start {g r : Int} (hg : g * v1 + r = u0 * 100000000 + u1) (hr : 0 ≤ r ∧ r < v1) : l2 + P * (u2 + 100000000 * (u1 + 100000000 * u0)) < (g + 1) * (lv + P * (v2 + 100000000 * v1)) ∧ 0 ≤ g ∧ g ≤ 100000001 := by
  have hle := D.u0_le
  obtain ⟨hP, h1, h2, h3, h4, h5, h6, h7, h8⟩ := D
  have hg0 : 0 ≤ g := by
    rcases ilt_or g 0 with h | h
    · exfalso
      have : g * v1 ≤ (-1) * v1 := Int.mul_le_mul_of_nonneg_right (by omega) (by omega)
      omega
    · exact h
  refine ⟨?_, hg0, ?_⟩
  · have e1 : (u1 + 100000000 * u0) + 1 ≤ (g + 1) * v1 := by grind
    have e2 : P * (u2 + 100000000 * (u1 + 100000000 * u0)) + P ≤ P * (100000000 * ((g + 1) * v1)) := by
      have := Int.mul_le_mul_of_nonneg_left (show u2 + 100000000 * (u1 + 100000000 * u0) + 1 ≤ 100000000 * ((g + 1) * v1) by omega) (show (0:Int) ≤ P by omega)
      rw [Int.mul_add] at this; omega
    have e3 : P * (100000000 * ((g + 1) * v1)) ≤ (g + 1) * (lv + P * (v2 + 100000000 * v1)) := by
      have e4 : (g + 1) * (P * (100000000 * v1)) ≤ (g + 1) * (lv + P * (v2 + 100000000 * v1)) := by
        refine Int.mul_le_mul_of_nonneg_left ?_ (by omega)
        have : 0 ≤ P * v2 := Int.mul_nonneg (by omega) (by omega)
        rw [Int.mul_add]; omega
      have e5 : P * (100000000 * ((g + 1) * v1)) = (g + 1) * (P * (100000000 * v1)) := by grind
      omega
    omega
  · rcases ilt_or 100000001 g with h | h
    · exfalso
      have e1 : 100000002 * v1 ≤ g * v1 := Int.mul_le_mul_of_nonneg_right (by omega) (by omega)
      omega
    · exact h
theorem Dgt.down {g r : Int} (hg : g * v1 + r = u0 * 100000000 + u1) (hr : 0 ≤ r) (hg0 : 0 ≤ g) (h : 100000000 ≤ g ∨ r * 100000000 + u2 < g * v2) : l2 + P * (u2 + 100000000 * (u1 + 100000000 * u0)) < g * (lv + P * (v2 + 100000000 * v1)) ∧ 1 ≤ g := by
  obtain ⟨hP, h1, h2, h3, h4, h5, h6, h7, h8⟩ := D
  have hV : 0 ≤ lv + P * (v2 + 100000000 * v1) := by
    have : 0 ≤ P * (v2 + 100000000 * v1) := Int.mul_nonneg (by omega) (by omega)
    omega
  rcases h with h | h
  · refine ⟨?_, by omega⟩
    have := Int.mul_le_mul_of_nonneg_right h hV
    omega
  · have hg1 : 1 ≤ g := by
      rcases ilt_or g 1 with h' | h'
      · have : g = 0 := by omega
        subst this
        omega
      · exact h'
    refine ⟨?_, hg1⟩
    have e1 : P * (u2 + 100000000 * (u1 + 100000000 * u0)) + P ≤ P * (g * (v2 + 100000000 * v1)) := by
      have := Int.mul_le_mul_of_nonneg_left (show u2 + 100000000 * (u1 + 100000000 * u0) + 1 ≤ g * (v2 + 100000000 * v1) by grind) (show (0:Int) ≤ P by omega)
      rw [Int.mul_add] at this; omega
    have e2 : g * (lv + P * (v2 + 100000000 * v1)) = g * lv + P * (g * (v2 + 100000000 * v1)) := by grind
    have e3 : 0 ≤ g * lv := Int.mul_nonneg (by omega) (by omega)
    omega
theorem Dgt.keep {g r : Int} (hg : g * v1 + r = u0 * 100000000 + u1) (hr : 0 ≤ r) (hg0 : 0 ≤ g) (h : 100000000 ≤ r ∨ (g < 100000000 ∧ g * v2 ≤ r * 100000000 + u2)) :
    g < 100000000 ∧ g * (lv + P * (v2 + 100000000 * v1)) ≤ l2 + P * (u2 + 100000000 * (u1 + 100000000 * u0)) + (lv + P * (v2 + 100000000 * v1)) := by
  have hle := D.u0_le
  obtain ⟨hP, h1, h2, h3, h4, h5, h6, h7, h8⟩ := D
  have hgB : g < 100000000 := by
    rcases h with h | h
    · rcases ilt_or g 100000000 with h' | h'
      · exact h'
      · exfalso
        have := Int.mul_le_mul_of_nonneg_right h' (show (0:Int) ≤ v1 by omega)
        omega
    · exact h.1
  have hk : g * v2 ≤ r * 100000000 + u2 := by
    rcases h with h | h
    · have e1 : g * v2 ≤ 99999999 * v2 := Int.mul_le_mul_of_nonneg_right (by omega) (by omega)
      omega
    · exact h.2
  refine ⟨hgB, ?_⟩
  have e1 : P * (g * (v2 + 100000000 * v1)) ≤ P * (u2 + 100000000 * (u1 + 100000000 * u0)) := Int.mul_le_mul_of_nonneg_left (by grind) (by omega)
  have e2 : g * (lv + P * (v2 + 100000000 * v1)) = g * lv + P * (g * (v2 + 100000000 * v1)) := by grind
  have e3 : g * lv ≤ 99999999 * P := by
    have a1 : g * lv ≤ g * P := Int.mul_le_mul_of_nonneg_left (by omega) hg0
    have a2 : g * P ≤ 99999999 * P := Int.mul_le_mul_of_nonneg_right (by omega) (by omega)
    omega
  have e4 : P * (100000000 * 50000000) ≤ P * (v2 + 100000000 * v1) := Int.mul_le_mul_of_nonneg_left (by omega) (by omega)
  omega
end
end Go.PI.IM
/- EUCLID'S ALGORITHM BY THE FIRST ELEMENTS (LEHMER). -/
namespace Go.PI.IM
structure Leh (P tX tY U V a b c d u v : Int) : Prop where
  hP : 0 < P
  hX : 0 ≤ tX ∧ tX < P
  hY : 0 ≤ tY ∧ tY < P
  hU : 0 ≤ U ∧ U ≤ 10000000000000000
  hV : 0 ≤ V ∧ V ≤ 10000000000000000
  hu : u = a * U + b * V
  hv : v = c * U + d * V
  hs : (0 ≤ a ∧ b ≤ 0 ∧ c ≤ 0 ∧ 0 ≤ d ∧ a * d - b * c = 1) ∨ (a ≤ 0 ∧ 0 ≤ b ∧ 0 ≤ c ∧ d ≤ 0 ∧ a * d - b * c = -1)
  hk : 0 ≤ u + a ∧ 0 ≤ u + b ∧ 0 ≤ v + c ∧ 0 ≤ v + d
  ha : -100000000 ≤ a ∧ a ≤ 100000000
  hb : -100000000 ≤ b ∧ b ≤ 100000000
  hc : -100000000 ≤ c ∧ c ≤ 100000000
  hd : -100000000 ≤ d ∧ d ≤ 100000000
  hu2 : 0 ≤ u ∧ u ≤ 10000000000000000
  hv2 : 0 ≤ v ∧ v ≤ 10000000000000000
  hXY : 0 ≤ c * (tX + P * U) + d * (tY + P * V) ∧ c * (tX + P * U) + d * (tY + P * V) ≤ a * (tX + P * U) + b * (tY + P * V)
  hpr : (a = 1 ∧ b = 0 ∧ c = 0 ∧ d = 1) ∨ (2 * ((a * (tX + P * U) + b * (tY + P * V)) * (c * (tX + P * U) + d * (tY + P * V))) ≤ (tX + P * U) * (tY + P * V) ∧ c * (tX + P * U) + d * (tY + P * V) < a * (tX + P * U) + b * (tY + P * V))
  hg : ∀ k : Int, (k ∣ a * (tX + P * U) + b * (tY + P * V) ∧ k ∣ c * (tX + P * U) + d * (tY + P * V)) ↔ (k ∣ tX + P * U ∧ k ∣ tY + P * V)
theorem leh_start {P tX tY U V : Int} (hP : 0 < P) (hX : 0 ≤ tX ∧ tX < P) (hY : 0 ≤ tY ∧ tY < P) (hU : 0 ≤ U ∧ U ≤ 10000000000000000) (hV : 0 ≤ V ∧ V ≤ 10000000000000000) (h : tY + P * V ≤ tX + P * U) : Leh P tX tY U V 1 0 0 1 U V := by
  have h0 : 0 ≤ P * V := Int.mul_nonneg (by omega) hV.1
  refine ⟨hP, hX, hY, hU, hV, by omega, by omega, .inl (by omega), by omega, by omega, by omega, by omega, by omega, hU, hV, by omega, .inl (by omega), fun k => ?_⟩
  simp only [Int.one_mul, Int.zero_mul, Int.add_zero, Int.zero_add]
theorem between {P a b tX tY u : Int} (hP : 0 < P) (hX : 0 ≤ tX ∧ tX < P) (hY : 0 ≤ tY ∧ tY < P) (ha : 0 ≤ a) (hb : b ≤ 0) : P * (u + b) ≤ P * u + a * tX + b * tY ∧ P * u + a * tX + b * tY ≤ P * (u + a) := by
  have e1 : 0 ≤ a * tX := Int.mul_nonneg ha hX.1
  have e2 : a * tX ≤ a * P := Int.mul_le_mul_of_nonneg_left (by omega) ha
  have e3 : 0 ≤ (-b) * tY := Int.mul_nonneg (by omega) hY.1
  have e4 : (-b) * tY ≤ (-b) * P := Int.mul_le_mul_of_nonneg_left (by omega) (by omega)
  rw [Int.neg_mul] at e3 e4
  rw [Int.neg_mul] at e4
  rw [Int.mul_add, Int.mul_add, Int.mul_comm P b, Int.mul_comm P a]
  omega
theorem step_core {P X Y ul uh vl vh q : Int} (hP : 0 < P) (hq : 0 ≤ q) (hX : P * ul ≤ X ∧ X ≤ P * uh) (hY : P * vl ≤ Y ∧ Y ≤ P * vh) (h1 : q * vh ≤ ul) (h2 : uh + 1 ≤ (q + 1) * vl) : 0 ≤ X - q * Y ∧ X - q * Y < Y := by
  have e1 : q * Y ≤ q * (P * vh) := Int.mul_le_mul_of_nonneg_left hY.2 hq
  have e2 : P * (q * vh) ≤ P * ul := Int.mul_le_mul_of_nonneg_left h1 (by omega)
  have e3 : q * (P * vh) = P * (q * vh) := by grind
  have e4 : P * (uh + 1) ≤ P * ((q + 1) * vl) := Int.mul_le_mul_of_nonneg_left h2 (by omega)
  have e5 : (q + 1) * (P * vl) ≤ (q + 1) * Y := Int.mul_le_mul_of_nonneg_left hY.1 (by omega)
  have e6 : (q + 1) * (P * vl) = P * ((q + 1) * vl) := by grind
  have e7 : (q + 1) * Y = q * Y + Y := by grind
  rw [Int.mul_add] at e4
  omega
section
variable {P tX tY U V a b c d u v : Int} (L : Leh P tX tY U V a b c d u v)
include L
theorem Leh.det_u : (0 ≤ a → 0 ≤ d → b ≤ 0 → c ≤ 0 → a * d - b * c = 1 → d * u + (-b) * v = U ∧ a * v + (-c) * u = V) ∧ (a ≤ 0 → d ≤ 0 → 0 ≤ b → 0 ≤ c → a * d - b * c = -1 → (-d) * u + b * v = U ∧ (-a) * v + c * u = V) := by
  have hu := L.hu
  have hv := L.hv
  refine ⟨fun _ _ _ _ h => ⟨?_, ?_⟩, fun _ _ _ _ h => ⟨?_, ?_⟩⟩
  · have : d * u + (-b) * v = (a * d - b * c) * U := by rw [hu, hv]; grind
    rw [this, h, Int.one_mul]
  · have : a * v + (-c) * u = (a * d - b * c) * V := by rw [hu, hv]; grind
    rw [this, h, Int.one_mul]
  · have : (-d) * u + b * v = -((a * d - b * c) * U) := by rw [hu, hv]; grind
    rw [this, h]; omega
  · have : (-a) * v + c * u = -((a * d - b * c) * V) := by rw [hu, hv]; grind
    rw [this, h]; omega
theorem Leh.small {q : Int} (hq : 0 ≤ q) (hq2 : q ≤ u + a) (h3 : q * (v + c) ≤ u + a) : -20000000000000000 ≤ q * c ∧ q * c ≤ 20000000000000000 ∧ -20000000000000000 ≤ q * d ∧ q * d ≤ 20000000000000000 ∧ -100000000000000000 ≤ q * v ∧ q * v ≤ 100000000000000000 := by
  obtain ⟨g1, g2⟩ := L.det_u
  have ha := L.ha; have hb := L.hb; have hc := L.hc; have hd := L.hd
  have hu2 := L.hu2; have hv2 := L.hv2; have hU := L.hU; have hV := L.hV
  have key : ∀ w : Int, 0 ≤ w → w ≤ 100000000 → w * u ≤ 10000000000000000 → 0 ≤ q * w ∧ q * w ≤ 20000000000000000 := fun w hw hw2 hwu => by
    have e1 : q * w ≤ (u + a) * w := Int.mul_le_mul_of_nonneg_right hq2 hw
    have e2 : a * w ≤ 100000000 * w := Int.mul_le_mul_of_nonneg_right (by omega) hw
    have e3 : (u + a) * w = w * u + a * w := by grind
    have e4 : 0 ≤ q * w := Int.mul_nonneg hq hw
    omega
  have hqv : q * (v + c) = q * v + q * c := Int.mul_add _ _ _
  have hqv0 : 0 ≤ q * v := Int.mul_nonneg hq hv2.1
  rcases L.hs with ⟨s1, s2, s3, s4, s5⟩ | ⟨s1, s2, s3, s4, s5⟩
  · obtain ⟨e1, e2⟩ := g1 s1 s4 s2 s3 s5
    have p1 : 0 ≤ (-b) * v := Int.mul_nonneg (by omega) hv2.1
    have p2 : 0 ≤ a * v := Int.mul_nonneg s1 hv2.1
    have k1 := key (-c) (by omega) (by omega) (by omega)
    have k2 := key d (by omega) (by omega) (by omega)
    rw [Int.mul_neg] at k1
    omega
  · obtain ⟨e1, e2⟩ := g2 s1 s4 s2 s3 s5
    have p1 : 0 ≤ b * v := Int.mul_nonneg s2 hv2.1
    have p2 : 0 ≤ (-a) * v := Int.mul_nonneg (by omega) hv2.1
    have k1 := key c (by omega) (by omega) (by omega)
    have k2 := key (-d) (by omega) (by omega) (by omega)
    rw [Int.mul_neg] at k2
    omega
theorem Leh.rest {q : Int} (hq : 0 ≤ q) (h1 : q * (v + c) ≤ u + a) (h1' : u + a + 1 ≤ (q + 1) * (v + c)) (h2 : q * (v + d) ≤ u + b) (h2' : u + b + 1 ≤ (q + 1) * (v + d)) :
    0 ≤ (a * (tX + P * U) + b * (tY + P * V)) - q * (c * (tX + P * U) + d * (tY + P * V)) ∧ (a * (tX + P * U) + b * (tY + P * V)) - q * (c * (tX + P * U) + d * (tY + P * V)) < c * (tX + P * U) + d * (tY + P * V) := by
  have eX : a * (tX + P * U) + b * (tY + P * V) = P * u + a * tX + b * tY := by rw [L.hu]; grind
  have eX' : a * (tX + P * U) + b * (tY + P * V) = P * u + b * tY + a * tX := by rw [L.hu]; grind
  have eY : c * (tX + P * U) + d * (tY + P * V) = P * v + c * tX + d * tY := by rw [L.hv]; grind
  have eY' : c * (tX + P * U) + d * (tY + P * V) = P * v + d * tY + c * tX := by rw [L.hv]; grind
  rcases L.hs with ⟨s1, s2, s3, s4, s5⟩ | ⟨s1, s2, s3, s4, s5⟩
  · have b1 := between (u := u) L.hP L.hX L.hY s1 s2
    have b2 := between (u := v) L.hP L.hY L.hX s4 s3
    rw [← eX] at b1
    rw [← eY'] at b2
    exact step_core L.hP hq b1 b2 h2 h1'
  · have b1 := between (u := u) L.hP L.hY L.hX s2 s1
    have b2 := between (u := v) L.hP L.hX L.hY s3 s4
    rw [← eX'] at b1
    rw [← eY] at b2
    exact step_core L.hP hq b1 b2 h1 h2'
theorem Leh.step {q : Int} (hq : 0 ≤ q) (h1 : q * (v + c) ≤ u + a) (h1' : u + a + 1 ≤ (q + 1) * (v + c)) (h2 : q * (v + d) ≤ u + b) (h2' : u + b + 1 ≤ (q + 1) * (v + d))
    (hn : -100000000 ≤ a - q * c ∧ a - q * c ≤ 100000000) (hl : -100000000 ≤ b - q * d ∧ b - q * d ≤ 100000000) :
    Leh P tX tY U V c d (a - q * c) (b - q * d) v (u - q * v) ∧ (a - q * c) * (tX + P * U) + (b - q * d) * (tY + P * V) < c * (tX + P * U) + d * (tY + P * V) := by
  obtain ⟨r1, r2⟩ := L.rest hq h1 h1' h2 h2'
  have hR : (a - q * c) * (tX + P * U) + (b - q * d) * (tY + P * V) = (a * (tX + P * U) + b * (tY + P * V)) - q * (c * (tX + P * U) + d * (tY + P * V)) := by grind
  have hqv0 : 0 ≤ q * v := Int.mul_nonneg hq L.hv2.1
  have hk1 : 0 ≤ (u - q * v) + (a - q * c) := by
    have : q * (v + c) = q * v + q * c := Int.mul_add _ _ _
    omega
  have hk2 : 0 ≤ (u - q * v) + (b - q * d) := by
    have : q * (v + d) = q * v + q * d := Int.mul_add _ _ _
    omega
  have hu2 := L.hu2
  have hXY := L.hXY
  have hg := L.hg
  have hpr := L.hpr
  rw [← hR] at r1 r2
  have e4 : (a * (tX + P * U) + b * (tY + P * V)) * (c * (tX + P * U) + d * (tY + P * V)) ≤ (tX + P * U) * (tY + P * V) := by
    rcases hpr with ⟨rfl, rfl, rfl, rfl⟩ | ⟨h, -⟩
    · simp only [Int.one_mul, Int.zero_mul, Int.add_zero, Int.zero_add]; exact Int.le_refl _
    · have : 0 ≤ (a * (tX + P * U) + b * (tY + P * V)) * (c * (tX + P * U) + d * (tY + P * V)) := Int.mul_nonneg (by omega) hXY.1
      omega
  refine ⟨⟨L.hP, L.hX, L.hY, L.hU, L.hV, L.hv, ?_, ?_, ⟨L.hk.2.2.1, L.hk.2.2.2, hk1, hk2⟩, L.hc, L.hd, hn, hl, L.hv2, ?_, ⟨r1, Int.le_of_lt r2⟩, .inr ⟨?_, r2⟩, fun k => ?_⟩, r2⟩
  · rw [L.hu, L.hv]; grind
  · rcases L.hs with ⟨s1, s2, s3, s4, s5⟩ | ⟨s1, s2, s3, s4, s5⟩
    · have e1 : 0 ≤ q * (-c) := Int.mul_nonneg hq (by omega)
      have e2 : 0 ≤ q * d := Int.mul_nonneg hq s4
      rw [Int.mul_neg] at e1
      exact .inr ⟨s3, s4, by omega, by omega, by grind⟩
    · have e1 : 0 ≤ q * c := Int.mul_nonneg hq s3
      have e2 : 0 ≤ q * (-d) := Int.mul_nonneg hq (by omega)
      rw [Int.mul_neg] at e2
      exact .inl ⟨s3, s4, by omega, by omega, by grind⟩
  · refine ⟨?_, by omega⟩
    rcases L.hs with ⟨s1, s2, s3, s4, s5⟩ | ⟨s1, s2, s3, s4, s5⟩
    · have e1 : 0 ≤ q * d := Int.mul_nonneg hq s4
      omega
    · have e1 : 0 ≤ q * c := Int.mul_nonneg hq s3
      omega
  · rw [hR] at r1 r2 ⊢
    generalize a * (tX + P * U) + b * (tY + P * V) = X1 at *
    generalize c * (tX + P * U) + d * (tY + P * V) = Y1 at *
    have hq1 : 1 ≤ q := by
      rcases ilt_or q 1 with h | h
      · have : q = 0 := by omega
        subst this
        omega
      · exact h
    have e0 : 1 * Y1 ≤ q * Y1 := Int.mul_le_mul_of_nonneg_right hq1 hXY.1
    have e1 : 2 * (X1 - q * Y1) ≤ X1 := by omega
    have e2 : 2 * (Y1 * (X1 - q * Y1)) ≤ X1 * Y1 := by
      have := Int.mul_le_mul_of_nonneg_right e1 hXY.1
      have e3 : 2 * (X1 - q * Y1) * Y1 = 2 * (Y1 * (X1 - q * Y1)) := by grind
      omega
    omega
  · rw [hR, ← hg k]
    constructor
    · rintro ⟨g1, g2⟩
      refine ⟨?_, g1⟩
      have := Int.dvd_add g2 (Int.dvd_mul_of_dvd_right (b := q) g1)
      rwa [Int.sub_add_cancel] at this
    · rintro ⟨g1, g2⟩
      exact ⟨g2, Int.dvd_sub g1 (Int.dvd_mul_of_dvd_right (b := q) g2)⟩
end
end Go.PI.IM
/- small, cmp.Compare, compare, short. -/
open Go.Proofs
namespace Go.PI
open IM
theorem fn188 : ctx.fn 188 = some c188 := by kernel_rfl
theorem fn192 : ctx.fn 192 = some c192 := by kernel_rfl
theorem fn203 : ctx.fn 203 = some c203 := by kernel_rfl
theorem fn201 : ctx.fn 201 = some c201 := by kernel_rfl
theorem fn206 : ctx.fn 206 = some c206 := by kernel_rfl
set_option maxRecDepth 10000
set_option maxHeartbeats 1000000
variable (S : FuncId → Option (List AV → Heap → Option (AV × Heap)))
structure Kp (H H' : Heap) (c : Nat) : Prop where
  n : H.n ≤ H'.n
  m : H'.n ≤ H.n + c
  get : ∀ A, A < H.n → H'.get A = H.get A
theorem Kp.refl (H : Heap) (c : Nat) : Kp H H c := ⟨Nat.le_refl _, by omega, fun _ _ => rfl⟩
theorem Kp.trans {H H1 H2 : Heap} {a b c : Nat} (h : Kp H H1 a) (k : Kp H1 H2 b) (hc : a + b ≤ c) : Kp H H2 c :=
  ⟨by have := h.n; have := k.n; omega, by have := h.m; have := k.m; omega, fun A hA => (k.get A (by have := h.n; omega)).trans (h.get A hA)⟩
theorem Kp.le {H H' : Heap} {a c : Nat} (h : Kp H H' a) (hc : a ≤ c) : Kp H H' c := ⟨h.n, by have := h.m; omega, h.get⟩
theorem Sl.kp {H H' : Heap} {v : AV} {xs : List Int} {c : Nat} (h : Sl H v xs) (k : Kp H H' c) : Sl H' v xs := h.mono k.get
theorem Mine.kp {H H' : Heap} {v : AV} {xs : List Int} {c : Nat} (h : Mine H H.n v xs H') (hc : H'.n ≤ H.n + c) : Kp H H' c := ⟨h.n, hc, fun A hA => h.keep A hA (by omega)⟩
theorem val_cons_drop {xs : List Int} {k : Nat} {e : Int} (h : xs[k]? = some e) : val (xs.drop k) = e + 100000000 * val (xs.drop (k + 1)) := by
  rw [drop_of_get h]; rfl
section
variable {C : Ctx} (hT : C.ty = tget)
include hT
theorem load_var {H : Heap} {b : Nat} {rw : Bool} {ty : TypeId} {n : Int} (h : H.get b = .cells rw ty [iv n]) : loadE C 3 (.ptr b 0) H = some (iv n) := by
  simp only [loadE, ty3 hT, h, partE, t3]; rfl
theorem store_var {H : Heap} {b : Nat} {u : AV} {n : Int} (h : H.get b = .cells true 3 [u]) : storeE C 3 (.ptr b 0) (iv n) H = some (H.set b (.cells true 3 [iv n])) := by
  simp only [storeE, ty3 hT, t3, h, AV.cells]; rfl
theorem load_slv {H : Heap} {b : Nat} {rw : Bool} {ty : TypeId} {v : AV} (h : H.get b = .cells rw ty [v]) : loadE C 22 (.ptr b 0) H = some v := by
  simp only [loadE, ty22 hT, h, partE, t22]; rfl
theorem store_slv {H : Heap} {b : Nat} {u v : AV} (hv : v.cells = [v] ∧ v.one = true) (h : H.get b = .cells true 22 [u]) : storeE C 22 (.ptr b 0) v H = some (H.set b (.cells true 22 [v])) := by
  simp only [storeE, ty22 hT, t22, h, hv.1, ones, hv.2]; rfl
end
theorem Sl.cells {H : Heap} {v : AV} {xs : List Int} (h : Sl H v xs) : v.cells = [v] ∧ v.one = true := by
  unfold Sl at h
  split at h <;> first | exact ⟨rfl, rfl⟩ | exact h.elim
theorem vsmall_run (hS : S 192 = none) (h204 : S 204 = none) (h210 : S 210 = none) {H : Heap} {x : AV} {xs : List Int} (hn : H.n + 10 < lim) (hx : Sl H x xs) (hl : xs.length ≤ 1000000) (hin : ∀ k, In64 (val (xs.drop k)) ∧ In64 (100000000 * val (xs.drop (k + 1)))) :
    Cl (ctx.plus S) 192 [x] H fun r H' => r = iv (val xs) ∧ Kp H H' 10 := by
  refine cl_of hS fn192 ?_
  have hT : (ctx.plus S).ty = tget := rfl
  have hp0 := Heap.get_push (H := H) (b := .cells true 3 t3.zero.cells) (by omega)
  have hpn0 : (H.push (.cells true 3 t3.zero.cells)).n = H.n + 1 := rfl
  have hg0 : (H.push (.cells true 3 t3.zero.cells)).get H.n = .cells true 3 [iv 0] := by rw [hp0, if_pos rfl]; rfl
  refine ⟨by omega, _, store_var hT hg0, ?_⟩
  have hU := upd_set (H := H.push (.cells true 3 t3.zero.cells)) (b := H.n) (x := .cells true 3 [iv 0]) (by omega) (by omega)
  generalize (H.push (.cells true 3 t3.zero.cells)).set H.n _ = H1 at hU ⊢
  generalize H.push (.cells true 3 t3.zero.cells) = H0 at hp0 hpn0 hU
  have hxl := hx.cells.1
  refine (backward_run S h204 (H := H1) (v := x) (by have := hU.n; omega)).mono ?_
  rintro _ _ ⟨rfl, rfl⟩
  have hp1 := Heap.get_push (H := H1) (b := .cells true 22 x.cells) (by have := hU.n; omega)
  have hpn1 : (H1.push (.cells true 22 x.cells)).n = H.n + 2 := by show H1.n + 1 = _; have := hU.n; omega
  have hn1 := hU.n
  have hH1n : H1.n = H.n + 1 := by omega
  rw [hH1n] at hp1 ⊢
  generalize H1.push (.cells true 22 x.cells) = H2 at hp1 hpn1 ⊢
  have hk : ∀ A, A < H.n → H2.get A = H.get A := fun A hA => by rw [hp1, if_neg (by omega), hU.other A (by omega), hp0, if_neg (by omega)]
  refine range_back S h210 (b := H.n + 1) (v := x) (xs := xs) (by omega) rfl (by omega)
    (fun k H' => (∀ A, A < H.n → H'.get A = H.get A) ∧ H'.get H.n = .cells true 3 [iv (val (xs.drop k))] ∧ H'.get (H.n + 1) = .cells true 22 [x] ∧ H'.get (H.n + 2) = .dfr ∧ H'.n = H.n + 4) ?_ ?_ ?_ ?_ ?_
  · rintro k H' ⟨a1, a2, a3, a4, a5⟩
    exact ⟨load_slv hT a3, hx.mono a1, by omega, by omega⟩
  · rintro k H' b H3 ⟨a1, a2, a3, a4, a5⟩ hV
    have := hV.n
    exact ⟨fun A hA => by rw [hV.other A (by omega)]; exact a1 A hA, by rw [hV.other _ (by omega)]; exact a2, by rw [hV.other _ (by omega)]; exact a3, by rw [hV.other _ (by omega)]; exact a4, by omega⟩
  · intro H' b1 b2 b3
    refine ⟨fun A hA => by rw [b2 A (by omega)]; exact hk A hA, ?_, ?_, by rw [← b3, hpn1], by omega⟩
    · rw [b2 _ (by omega), hp1, if_neg (by omega), hU.at_, List.drop_length]; rfl
    · rw [b2 _ (by omega), hp1, if_pos rfl, hxl]
  · rintro k e H' L ⟨a1, a2, a3, a4, a5⟩ he hL
    refine ⟨rfl, rfl, rfl, ?_⟩
    intro H3 L' hV
    have hV3 : H3.get H.n = .cells true 3 [iv (val (xs.drop (k + 1)))] := by rw [hV.other _ (by omega)]; exact a2
    refine ⟨_, load_var hT hV3, ?_⟩
    have hin1 := hin k
    have hvk := val_cons_drop he
    refine ⟨⟨by have := hin1.2; unfold In64 at this; omega, by have := hin1.2; unfold In64 at this; omega⟩, ?_⟩
    refine ⟨⟨by have := hin1.1; unfold In64 at this; omega, by have := hin1.1; unfold In64 at this; omega⟩, ?_⟩
    refine ⟨_, store_var hT hV3, ?_⟩
    have hn3 := hV.n
    have hW := upd_set (H := H3) (b := H.n) (x := .cells true 3 [iv (val (xs.drop (k + 1)) * 100000000 + e)]) (by omega) (by omega)
    rw [show val (xs.drop (k + 1)) * 100000000 + e = val (xs.drop k) by omega] at hW ⊢
    generalize H3.set H.n _ = H4 at hW ⊢
    have hn4 := hW.n
    refine ⟨rfl, ?_, ⟨fun A hA => ?_, hW.at_, ?_, ?_, by show H4.n = _; omega⟩⟩
    · rw [hW.other _ (by omega)]; exact hV.at_
    · rw [hW.other _ (by omega), hV.other _ (by omega)]; exact a1 A hA
    · rw [hW.other _ (by omega), hV.other _ (by omega)]; exact a3
    · rw [hW.other _ (by omega), hV.other _ (by omega)]; exact a4
  · rintro H' H3 ⟨a1, a2, a3, a4, a5⟩ hV
    have hV3 : H3.get H.n = .cells true 3 [iv (val (xs.drop 0))] := by rw [hV.other _ (by omega)]; exact a2
    refine ⟨_, load_var hT hV3, ?_⟩
    have hd : H3.get H2.n = .dfr := by rw [hpn1, hV.other _ (by omega)]; exact a4
    have hn3 := hV.n
    have hW := upd_set (H := H3) (b := H2.n) (x := .dead) (by omega) (by omega)
    refine ⟨H3.set H2.n .dead, by simp only [shutMarks, hd], ?_⟩
    have hfin : iv (val (xs.drop 0)) = iv (val xs) ∧ Kp H (H3.set H2.n .dead) 10 := ⟨rfl, by have := hW.n; omega, by have := hW.n; omega, fun A hA => by rw [hW.other A (by omega), hV.other A (by omega)]; exact a1 A hA⟩
    exact hfin
theorem sgn_val {xs : List Int} (h : Nrm xs) : (sgnL xs = 0 ∧ xs = [] ∧ val xs = 0) ∨ (sgnL xs = 1 ∧ xs ≠ [] ∧ 0 < val xs ∧ Dig xs) ∨ (sgnL xs = -1 ∧ xs ≠ [] ∧ val xs < 0 ∧ Dig (xs.map fun x => -x)) := by
  obtain ⟨hs, ht⟩ := h
  rcases ht with rfl | ⟨ys, t, rfl, h0⟩
  · exact .inl ⟨rfl, rfl, rfl⟩
  · have hsg : sgnL (ys ++ [t]) = if t < 0 then -1 else 1 := by unfold sgnL; simp
    right
    rcases hs with hs | hs
    · left
      have hd : Dig (ys ++ [t]) := fun x hx => hs x hx
      have ht := hs t (by simp)
      have h1 := (nrm_len hd (.inr ⟨ys, t, rfl, h0⟩) (by simp)).1
      have h2 := pw_pos ((ys ++ [t]).length - 1)
      exact ⟨by rw [hsg, if_neg (by omega)], by simp, by omega, hd⟩
    · right
      have hd : Dig ((ys ++ [t]).map fun x => -x) := fun x hx => by
        obtain ⟨y, hy, rfl⟩ := List.mem_map.1 hx
        have := hs y hy; omega
      have ht := hs t (by simp)
      have h1 := (nrm_len hd (.inr ⟨ys.map fun x => -x, -t, by simp, by omega⟩) (by simp)).1
      rw [val_neg] at h1
      have h2 := pw_pos (((ys ++ [t]).map fun x => -x).length - 1)
      exact ⟨by rw [hsg, if_pos (by omega)], by simp, by omega, hd⟩
theorem cmp_sgn {xs ys : List Int} (hx : Nrm xs) (hy : Nrm ys) (h : sgnL xs ≠ sgnL ys) : cmpI (sgnL xs) (sgnL ys) = cmpI (val xs) (val ys) := by
  rcases sgn_val hx with ⟨a1, -, a3⟩ | ⟨a1, -, a3, -⟩ | ⟨a1, -, a3, -⟩ <;> rcases sgn_val hy with ⟨b1, -, b3⟩ | ⟨b1, -, b3, -⟩ | ⟨b1, -, b3, -⟩ <;> rw [a1, b1] at h ⊢ <;> unfold cmpI <;> (repeat' split) <;> first | rfl | (exfalso; omega)
theorem cmp_len {xs ys : List Int} (hx : Nrm xs) (hy : Nrm ys) (h : sgnL xs = sgnL ys) (hl : xs.length ≠ ys.length) : cmpI xs.length ys.length * sgnL xs = cmpI (val xs) (val ys) := by
  rcases sgn_val hx with ⟨a1, rfl, a3⟩ | ⟨a1, a2, a3, a4⟩ | ⟨a1, a2, a3, a4⟩ <;> rcases sgn_val hy with ⟨b1, rfl, b3⟩ | ⟨b1, b2, b3, b4⟩ | ⟨b1, b2, b3, b4⟩ <;> rw [a1] at h <;> (try rw [b1] at h) <;> try (exact absurd h (by decide))
  · exact absurd rfl hl
  · have c1 := nrm_len a4 hx.2 a2
    have c2 := nrm_len b4 hy.2 b2
    rw [a1, Int.mul_one]
    rcases Nat.lt_or_gt_of_ne hl with h1 | h1
    · have := pw_mono (show xs.length ≤ ys.length - 1 by omega)
      unfold cmpI; rw [if_pos (by omega), if_pos (by omega)]
    · have := pw_mono (show ys.length ≤ xs.length - 1 by omega)
      unfold cmpI; rw [if_neg (by omega), if_pos (by omega), if_neg (by omega), if_pos (by omega)]
  · have c1 := nrm_len a4 (nrm_neg hx).2 (by simpa using a2)
    have c2 := nrm_len b4 (nrm_neg hy).2 (by simpa using b2)
    rw [val_neg, List.length_map] at c1 c2
    rw [a1]
    rcases Nat.lt_or_gt_of_ne hl with h1 | h1
    · have := pw_mono (show xs.length ≤ ys.length - 1 by omega)
      unfold cmpI; rw [if_pos (by omega), if_neg (by omega), if_pos (by omega)]; rfl
    · have := pw_mono (show ys.length ≤ xs.length - 1 by omega)
      unfold cmpI; rw [if_neg (by omega), if_pos (by omega), if_pos (by omega)]; rfl
theorem cmp_dif {xs ys : List Int} (hx : Nrm xs) (hy : Nrm ys) (h : sgnL xs = sgnL ys) {k : Nat} {e e' : Int} (he : xs[k]? = some e) (he' : ys[k]? = some e') (hne : e ≠ e') (hd : xs.drop (k + 1) = ys.drop (k + 1)) : cmpI e e' = cmpI (val xs) (val ys) := by
  have hkx := (List.getElem?_eq_some_iff.1 he).1
  have hky := (List.getElem?_eq_some_iff.1 he').1
  have ex : xs = xs.take k ++ e :: xs.drop (k + 1) := by rw [← drop_of_get he, List.take_append_drop]
  have ey : ys = ys.take k ++ e' :: xs.drop (k + 1) := by rw [hd, ← drop_of_get he', List.take_append_drop]
  have key : (Dig xs ∧ Dig ys) ∨ (Dig (xs.map fun x => -x) ∧ Dig (ys.map fun x => -x)) := by
    rcases sgn_val hx with ⟨a1, rfl, a3⟩ | ⟨a1, a2, a3, a4⟩ | ⟨a1, a2, a3, a4⟩ <;> rcases sgn_val hy with ⟨b1, rfl, b3⟩ | ⟨b1, b2, b3, b4⟩ | ⟨b1, b2, b3, b4⟩ <;> rw [a1] at h <;> (try rw [b1] at h) <;> first | exact absurd h (by decide) | (simp at hkx; done) | exact .inl ⟨a4, b4⟩ | exact .inr ⟨a4, b4⟩
  conv => rhs; rw [ex, ey]
  refine (cmp_first (by simp; omega) hne ?_).symm
  rcases key with ⟨k1, k2⟩ | ⟨k1, k2⟩
  · exact .inl ⟨fun x hx => k1 x (List.mem_of_mem_take hx), fun x hx => k2 x (List.mem_of_mem_take hx)⟩
  · refine .inr ⟨fun x hx => k1 x ?_, fun x hx => k2 x ?_⟩
    · rw [List.map_take] at hx; exact List.mem_of_mem_take hx
    · rw [List.map_take] at hx; exact List.mem_of_mem_take hx
theorem Sl.same {H : Heap} {v : AV} {xs : List Int} (h : Sl H v xs) : v.same v = true := by
  unfold Sl at h
  split at h <;> first | rfl | exact h.elim | simp [AV.same, AV.sames]
theorem cmpInt_run (h203 : S 203 = none) (h201 : S 201 = none) {H : Heap} {m n : Int} : Cl (ctx.plus S) 203 [iv m, iv n] H fun r H' => r = iv (cmpI m n) ∧ H = H' := by
  have nan : ∀ k : Int, Cl (ctx.plus S) 201 [iv k] H fun r H' => r = .bool false ∧ H = H' := fun k => by
    refine cl_of h201 fn201 ?_
    refine ⟨fun h => absurd rfl h, fun _ => ?_⟩
    exact ⟨rfl, rfl⟩
  refine cl_of h203 fn203 ?_
  refine (nan m).mono ?_
  rintro _ _ ⟨rfl, rfl⟩
  refine (nan n).mono ?_
  rintro _ _ ⟨rfl, rfl⟩
  refine ⟨fun h => ?_, fun h => ?_⟩
  · exact ⟨by unfold cmpI; rw [if_pos h], rfl⟩
  · refine ⟨fun h2 => ?_, fun h2 => ?_⟩
    · exact ⟨by unfold cmpI; rw [if_neg (by omega), if_pos h2], rfl⟩
    · exact ⟨by unfold cmpI; rw [if_neg (by omega), if_neg (by omega)], rfl⟩
end Go.PI
