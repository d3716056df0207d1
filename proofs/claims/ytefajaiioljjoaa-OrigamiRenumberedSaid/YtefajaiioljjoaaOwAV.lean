/- Own work of the verifier: OtA OtB OgK PvYld OtE. -/
import Derived.Test.YtefajaiioljjoaaOwAT
import Derived.Test.YtefajaiioljjoaaOwAO
import Derived.Test.YtefajaiioljjoaaOwAS
import Derived.Test.YtefajaiioljjoaaOwAU
set_option linter.all false
set_option exponentiation.threshold 3000
set_option linter.deprecated false
/- LATTICES of the plane: what two or three vectors span; normal forms. -/
namespace Go.PI
def Ltt (A B C x y : Int) : Prop := ∃ i j : Int, x = i * A + j * B ∧ y = j * C
def Spn (A B C X Y x y : Int) : Prop := ∃ i j k : Int, x = i * A + j * B + k * X ∧ y = j * C + k * Y
theorem bezN (a b : Nat) : ∃ i j : Int, (Nat.gcd a b : Int) = i * a + j * b := by
  induction a, b using Nat.gcd.induction with
  | H0 n => exact ⟨0, 1, by simp⟩
  | H1 m n hm ih =>
    obtain ⟨i, j, h⟩ := ih
    refine ⟨j - i * ((n / m : Nat) : Int), i, ?_⟩
    rw [Nat.gcd_rec, h]
    have e : ((n % m : Nat) : Int) = n - m * ((n / m : Nat) : Int) := by
      have := Nat.div_add_mod n m
      have h2 : ((m * (n / m) + n % m : Nat) : Int) = n := by rw [this]
      rw [Int.natCast_add, Int.natCast_mul] at h2
      omega
    rw [e, Int.mul_sub, Int.sub_mul, Int.mul_comm (m : Int) _, Int.mul_assoc]
    omega
theorem bezZ (a b : Int) : ∃ i j : Int, (Nat.gcd a.natAbs b.natAbs : Int) = i * a + j * b := by
  obtain ⟨i, j, h⟩ := bezN a.natAbs b.natAbs
  have s : ∀ z : Int, ∃ e : Int, (z.natAbs : Int) = e * z := fun z => by
    rcases Int.natAbs_eq z with h | h
    · exact ⟨1, by omega⟩
    · exact ⟨-1, by omega⟩
  obtain ⟨e1, h1⟩ := s a
  obtain ⟨e2, h2⟩ := s b
  exact ⟨i * e1, j * e2, by rw [h, h1, h2, Int.mul_assoc, Int.mul_assoc]⟩
theorem spn_step {A B C X Y q x y : Int} : Spn A X Y (B - q * X) (C - q * Y) x y ↔ Spn A B C X Y x y := by
  constructor
  · rintro ⟨i, j, k, rfl, rfl⟩
    refine ⟨i, k, j - k * q, ?_, ?_⟩
    · rw [Int.mul_sub, Int.sub_mul, Int.mul_assoc]; omega
    · rw [Int.mul_sub, Int.sub_mul, Int.mul_assoc]; omega
  · rintro ⟨i, j, k, rfl, rfl⟩
    refine ⟨i, k + j * q, j, ?_, ?_⟩
    · rw [Int.mul_sub, Int.add_mul, Int.mul_assoc]; omega
    · rw [Int.mul_sub, Int.add_mul, Int.mul_assoc]; omega
theorem spn_end {A B C X x y : Int} : Spn A B C X 0 x y ↔ Ltt (Nat.gcd A.natAbs X.natAbs : Nat) B C x y := by
  have hd : ∀ z : Int, (Nat.gcd A.natAbs X.natAbs) ∣ z.natAbs → ∃ t, z = t * (Nat.gcd A.natAbs X.natAbs : Nat) := fun z hz => by
    obtain ⟨t, ht⟩ := Int.ofNat_dvd_left.2 hz
    exact ⟨t, by rw [ht, Int.mul_comm]⟩
  obtain ⟨ta, ha⟩ := hd A (Nat.gcd_dvd_left _ _)
  obtain ⟨tx, hx⟩ := hd X (Nat.gcd_dvd_right _ _)
  obtain ⟨u, v, hb⟩ := bezZ A X
  obtain ⟨G, hG⟩ : ∃ G : Int, G = (Nat.gcd A.natAbs X.natAbs : Nat) := ⟨_, rfl⟩
  rw [← hG] at ha hx hb ⊢
  clear hG hd
  constructor
  · rintro ⟨i, j, k, rfl, rfl⟩
    refine ⟨i * ta + k * tx, j, ?_, by omega⟩
    rw [Int.add_mul, Int.mul_assoc, Int.mul_assoc, ← ha, ← hx]; omega
  · rintro ⟨i, j, rfl, rfl⟩
    refine ⟨i * u, j, i * v, ?_, by omega⟩
    rw [hb, Int.mul_add, Int.mul_assoc, Int.mul_assoc]; omega
theorem ltt_neg {A B C x y : Int} : Ltt A (-B) (-C) x y ↔ Ltt A B C x y := by
  constructor
  · rintro ⟨i, j, rfl, rfl⟩
    exact ⟨i, -j, by rw [Int.neg_mul, Int.mul_neg], by rw [Int.neg_mul, Int.mul_neg]⟩
  · rintro ⟨i, j, rfl, rfl⟩
    exact ⟨i, -j, by rw [Int.neg_mul, Int.mul_neg, Int.neg_neg], by rw [Int.neg_mul, Int.mul_neg, Int.neg_neg]⟩
theorem ltt_mod {A B C t x y : Int} : Ltt A (B - t * A) C x y ↔ Ltt A B C x y := by
  constructor
  · rintro ⟨i, j, rfl, rfl⟩
    exact ⟨i - j * t, j, by rw [Int.mul_sub, Int.sub_mul, Int.mul_assoc]; omega, rfl⟩
  · rintro ⟨i, j, rfl, rfl⟩
    exact ⟨i + j * t, j, by rw [Int.mul_sub, Int.add_mul, Int.mul_assoc]; omega, rfl⟩
structure NFm (A B C : Int) : Prop where
  a : 0 ≤ A
  c : 0 ≤ C
  b : 0 < A → 0 ≤ B ∧ B < A
  z : C = 0 → B = 0
theorem nf_zero : NFm 0 0 0 := ⟨by omega, by omega, fun h => by omega, fun _ => rfl⟩
theorem mul_le_one {j a b : Int} (ha : 0 < a) (hb : 0 < b) (h : a = j * b) : b ≤ a := by
  have hj : 0 < j := by
    rcases Int.lt_or_le 0 j with h1 | h1
    · exact h1
    · have := Int.mul_nonneg (show 0 ≤ -j by omega) (Int.le_of_lt hb)
      rw [Int.neg_mul] at this
      omega
  have := Int.mul_le_mul_of_nonneg_right (show 1 ≤ j by omega) (Int.le_of_lt hb)
  omega
theorem nf_uniq {A B C A' B' C' : Int} (h : NFm A B C) (h' : NFm A' B' C') (hA : 0 < A) (hC : 0 < C) (hA' : 0 < A') (hC' : 0 < C') (e : ∀ x y, Ltt A B C x y ↔ Ltt A' B' C' x y) : A = A' ∧ B = B' ∧ C = C' := by
  have zero : ∀ {j c : Int}, 0 < c → j * c = 0 → j = 0 := fun {j c} hc hj => by
    rcases Int.mul_eq_zero.1 hj with h | h
    · exact h
    · omega
  have c1 : ∀ {A B C A' B' C' : Int}, 0 < C → 0 < C' → (∀ x y, Ltt A B C x y → Ltt A' B' C' x y) → C' ≤ C := fun {A B C A' B' C'} hC hC' e => by
    obtain ⟨i, j, -, h2⟩ := e B C ⟨0, 1, by omega, by omega⟩
    exact mul_le_one hC hC' h2
  have a1 : ∀ {A B C A' B' C' : Int}, 0 < A → 0 < A' → 0 < C' → (∀ x y, Ltt A B C x y → Ltt A' B' C' x y) → A' ≤ A := fun {A B C A' B' C'} hA hA' hC' e => by
    obtain ⟨i, j, h1, h2⟩ := e A 0 ⟨1, 0, by omega, by omega⟩
    have := zero hC' h2.symm
    subst this
    exact mul_le_one (j := i) hA hA' (by omega)
  have eC : C = C' := by
    have := c1 hC hC' fun x y => (e x y).1
    have := c1 hC' hC fun x y => (e x y).2
    omega
  have eA : A = A' := by
    have := a1 hA hA' hC' fun x y => (e x y).1
    have := a1 hA' hA hC fun x y => (e x y).2
    omega
  subst eC eA
  refine ⟨rfl, ?_, rfl⟩
  obtain ⟨i, j, h1, h2⟩ := (e B C).1 ⟨0, 1, by omega, by omega⟩
  have hj : j = 1 := by
    have := zero (j := j - 1) hC (by rw [Int.sub_mul]; omega)
    omega
  subst hj
  obtain ⟨b1, b2⟩ := h.b hA
  obtain ⟨b3, b4⟩ := h'.b hA
  have hi : i = 0 := by
    rcases Int.lt_trichotomy i 0 with h | h | h
    · have := Int.mul_le_mul_of_nonneg_right (show i ≤ -1 by omega) (Int.le_of_lt hA)
      omega
    · exact h
    · have := Int.mul_le_mul_of_nonneg_right (show 1 ≤ i by omega) (Int.le_of_lt hA)
      omega
  subst hi
  omega
structure Bdl (K A B C : Int) : Prop where
  c : C ≤ 30
  b : A = 0 → B.natAbs ≤ 30
  a : A ≤ K
theorem bd_zero {K : Int} (hK : 0 ≤ K) : Bdl K 0 0 0 := ⟨by omega, fun _ => by decide, by omega⟩
theorem bd_next {K A B C X Y A' B' C' : Int} (h : NFm A B C) (hb : Bdl K A B C) (h' : NFm A' B' C') (hX : X.natAbs ≤ 30) (hY : Y.natAbs ≤ 30) (e : ∀ x y, Ltt A' B' C' x y ↔ Spn A B C X Y x y) (h0 : A = 0 → A' ≤ K) : Bdl K A' B' C' := by
  have m1 : ∀ {j z c : Int}, z ≠ 0 → z = j * c → c.natAbs ≤ z.natAbs := fun {j z c} hz e => by
    have hj : j ≠ 0 := fun h => by subst h; omega
    rw [e, Int.natAbs_mul]
    exact Nat.le_mul_of_pos_left _ (by omega)
  obtain ⟨i1, j1, p1, p2⟩ := (e B C).2 ⟨0, 1, 0, by omega, by omega⟩
  obtain ⟨i2, j2, p3, p4⟩ := (e X Y).2 ⟨0, 0, 1, by omega, by omega⟩
  obtain ⟨i3, j3, k3, p5, p6⟩ := (e B' C').1 ⟨0, 1, by omega, by omega⟩
  have hc := h.c
  have hc' := h'.c
  have ha := h.a
  have ha' := h'.a
  have hbc := hb.c
  refine ⟨?_, fun hA => ?_, ?_⟩
  · by_cases e1 : C = 0
    · by_cases e2 : Y = 0
      · subst e1 e2
        have : C' = 0 := by rw [p6]; simp
        omega
      · have := m1 e2 p4; omega
    · have := m1 e1 p2; omega
  · subst hA
    have hA0 : A = 0 := by
      obtain ⟨i, j, q1, q2⟩ := (e A 0).2 ⟨1, 0, 0, by omega, by omega⟩
      rcases Int.mul_eq_zero.1 q2.symm with h3 | h3
      · subst h3; omega
      · rw [h'.z h3] at q1; omega
    have hbb := hb.b hA0
    by_cases e1 : B' = 0
    · subst e1; decide
    by_cases e2 : j1 = 0
    · by_cases e3 : j2 = 0
      · subst e2 e3 hA0
        have : B = 0 := by omega
        have : X = 0 := by omega
        subst B X
        exact absurd (by rw [p5]; simp) e1
      · have hx : X = j2 * B' := by omega
        have : X ≠ 0 := fun h => by rw [h] at hx; rcases Int.mul_eq_zero.1 hx.symm with h | h; exact e3 h; exact e1 h
        have := m1 this hx; omega
    · have hx : B = j1 * B' := by omega
      have : B ≠ 0 := fun h => by rw [h] at hx; rcases Int.mul_eq_zero.1 hx.symm with h | h; exact e2 h; exact e1 h
      have := m1 this hx; omega
  · by_cases hA : A = 0
    · exact h0 hA
    · obtain ⟨i, j, q1, q2⟩ := (e A 0).2 ⟨1, 0, 0, by omega, by omega⟩
      have hba := hb.a
      have hq : A = i * A' := by
        rcases Int.mul_eq_zero.1 q2.symm with h3 | h3
        · subst h3; omega
        · rw [h'.z h3] at q1; omega
      have := m1 hA hq; omega
end Go.PI
/- PERIODS: the ways of squares that come back to square 0. -/
namespace Go.PI
inductive Wk (f f' g g' : Nat → Nat) : Nat → Int → Int → Prop
  | o : Wk f f' g g' 0 0 0
  | r {s : Nat} {x y : Int} (h : Wk f f' g g' s x y) : Wk f f' g g' (f s) (x + 1) y
  | l {s : Nat} {x y : Int} (h : Wk f f' g g' s x y) : Wk f f' g g' (f' s) (x - 1) y
  | u {s : Nat} {x y : Int} (h : Wk f f' g g' s x y) : Wk f f' g g' (g s) x (y + 1)
  | d {s : Nat} {x y : Int} (h : Wk f f' g g' s x y) : Wk f f' g g' (g' s) x (y - 1)
section
variable {n : Nat} {f f' g g' : Nat → Nat} {A B C : Int}
theorem Wk.cast {s : Nat} {x y x' y' : Int} (h : Wk f f' g g' s x y) (hx : x' = x) (hy : y' = y) : Wk f f' g g' s x' y' := by subst hx hy; exact h
theorem wk_lt (pf : IsP n f f') (pg : IsP n g g') (h0 : 0 < n) {s : Nat} {x y : Int} (h : Wk f f' g g' s x y) : s < n := by
  induction h with
  | o => exact h0
  | r _ ih => exact pf.lt _ ih
  | l _ ih => exact pf.glt _ ih
  | u _ ih => exact pg.lt _ ih
  | d _ ih => exact pg.glt _ ih
theorem wk_sub (pf : IsP n f f') (pg : IsP n g g') (h0 : 0 < n) {s : Nat} {c d : Int} (h : Wk f f' g g' s c d) : ∀ {a b : Int}, Wk f f' g g' s a b → Wk f f' g g' 0 (a - c) (b - d) := by
  induction h with
  | o => intro a b h; exact h.cast (by omega) (by omega)
  | @r s x y hs ih =>
    intro a b h
    have h2 := h.l
    rw [pf.gf s (wk_lt pf pg h0 hs)] at h2
    exact (ih h2).cast (by omega) (by omega)
  | @l s x y hs ih =>
    intro a b h
    have h2 := h.r
    rw [pf.fg s (wk_lt pf pg h0 hs)] at h2
    exact (ih h2).cast (by omega) (by omega)
  | @u s x y hs ih =>
    intro a b h
    have h2 := h.d
    rw [pg.gf s (wk_lt pf pg h0 hs)] at h2
    exact (ih h2).cast (by omega) (by omega)
  | @d s x y hs ih =>
    intro a b h
    have h2 := h.u
    rw [pg.fg s (wk_lt pf pg h0 hs)] at h2
    exact (ih h2).cast (by omega) (by omega)
theorem wk_add {s : Nat} {a b c d : Int} (h : Wk f f' g g' 0 a b) (k : Wk f f' g g' s c d) : Wk f f' g g' s (a + c) (b + d) := by
  induction k with
  | o => exact h.cast (by omega) (by omega)
  | r _ ih => exact ih.r.cast (by omega) (by omega)
  | l _ ih => exact ih.l.cast (by omega) (by omega)
  | u _ ih => exact ih.u.cast (by omega) (by omega)
  | d _ ih => exact ih.d.cast (by omega) (by omega)
theorem wk_nat {a b : Int} (h : Wk f f' g g' 0 a b) : ∀ k : Nat, Wk f f' g g' 0 (k * a) (k * b)
  | 0 => Wk.o.cast (by simp) (by simp)
  | k + 1 => (wk_add h (wk_nat h k)).cast (by rw [Int.natCast_add, Int.add_mul]; omega) (by rw [Int.natCast_add, Int.add_mul]; omega)
theorem wk_int (pf : IsP n f f') (pg : IsP n g g') (h0 : 0 < n) {a b : Int} (h : Wk f f' g g' 0 a b) (k : Int) : Wk f f' g g' 0 (k * a) (k * b) := by
  rcases Int.natAbs_eq k with e | e
  · rw [e]; exact wk_nat h _
  · rw [e, Int.neg_mul, Int.neg_mul]
    exact (wk_sub pf pg h0 (wk_nat h k.natAbs) .o).cast (by omega) (by omega)
def Per (f f' g g' : Nat → Nat) (A B C : Int) : Prop := ∀ x y, Ltt A B C x y → Wk f f' g g' 0 x y
theorem per_zero : Per f f' g g' 0 0 0 := by
  rintro x y ⟨i, j, rfl, rfl⟩
  exact Wk.o.cast (by simp) (by simp)
theorem per_next (pf : IsP n f f') (pg : IsP n g g') (h0 : 0 < n) {X Y A' B' C' : Int} (h : Per f f' g g' A B C) (hw : Wk f f' g g' 0 X Y) (e : ∀ x y, Ltt A' B' C' x y ↔ Spn A B C X Y x y) : Per f f' g g' A' B' C' := by
  intro x y hl
  obtain ⟨i, j, k, rfl, rfl⟩ := (e x y).1 hl
  exact wk_add (h _ _ ⟨i, j, rfl, rfl⟩) (wk_int pf pg h0 hw k)
theorem ltt_mono {X Y A' B' C' x y : Int} (e : ∀ x y, Ltt A' B' C' x y ↔ Spn A B C X Y x y) (h : Ltt A B C x y) : Ltt A' B' C' x y := by
  obtain ⟨i, j, rfl, rfl⟩ := h
  exact (e _ _).2 ⟨i, j, 0, by omega, by omega⟩
theorem ltt_new {X Y A' B' C' : Int} (e : ∀ x y, Ltt A' B' C' x y ↔ Spn A B C X Y x y) : Ltt A' B' C' X Y := (e _ _).2 ⟨0, 0, 1, by omega, by omega⟩
theorem ltt_add {x y x' y' : Int} (h : Ltt A B C x y) (k : Ltt A B C x' y') : Ltt A B C (x + x') (y + y') := by
  obtain ⟨i, j, rfl, rfl⟩ := h
  obtain ⟨i', j', rfl, rfl⟩ := k
  exact ⟨i + i', j + j', by rw [Int.add_mul, Int.add_mul]; omega, by rw [Int.add_mul]⟩
theorem ltt_sub {x y x' y' : Int} (h : Ltt A B C x y) (k : Ltt A B C x' y') : Ltt A B C (x - x') (y - y') := by
  obtain ⟨i, j, rfl, rfl⟩ := h
  obtain ⟨i', j', rfl, rfl⟩ := k
  exact ⟨i - i', j - j', by rw [Int.sub_mul, Int.sub_mul]; omega, by rw [Int.sub_mul]⟩
theorem Ltt.cast {x y x' y' : Int} (h : Ltt A B C x y) (hx : x' = x) (hy : y' = y) : Ltt A B C x' y' := by subst hx hy; exact h
structure Edg (n : Nat) (f g : Nat → Nat) (px py : Nat → Int) (A B C : Int) : Prop where
  zx : px 0 = 0
  zy : py 0 = 0
  r : ∀ s, s < n → Ltt A B C (px s + 1 - px (f s)) (py s - py (f s))
  u : ∀ s, s < n → Ltt A B C (px s - px (g s)) (py s + 1 - py (g s))
theorem wk_ltt (pf : IsP n f f') (pg : IsP n g g') (h0 : 0 < n) {px py : Nat → Int} (E : Edg n f g px py A B C) {s : Nat} {x y : Int} (h : Wk f f' g g' s x y) : Ltt A B C (x - px s) (y - py s) := by
  induction h with
  | o => exact Ltt.cast (x := 0) (y := 0) ⟨0, 0, by omega, by omega⟩ (by rw [E.zx]; omega) (by rw [E.zy]; omega)
  | @r s x y hs ih => exact (ltt_add ih (E.r s (wk_lt pf pg h0 hs))).cast (by omega) (by omega)
  | @l s x y hs ih =>
    have hl := wk_lt pf pg h0 hs
    have := E.r (f' s) (pf.glt s hl)
    rw [pf.fg s hl] at this
    exact (ltt_sub ih this).cast (by omega) (by omega)
  | @u s x y hs ih => exact (ltt_add ih (E.u s (wk_lt pf pg h0 hs))).cast (by omega) (by omega)
  | @d s x y hs ih =>
    have hl := wk_lt pf pg h0 hs
    have := E.u (g' s) (pg.glt s hl)
    rw [pg.fg s hl] at this
    exact (ltt_sub ih this).cast (by omega) (by omega)
theorem per_iff (pf : IsP n f f') (pg : IsP n g g') (h0 : 0 < n) {px py : Nat → Int} (E : Edg n f g px py A B C) (P : Per f f' g g' A B C) (x y : Int) : Ltt A B C x y ↔ Wk f f' g g' 0 x y := by
  refine ⟨P x y, fun h => (wk_ltt pf pg h0 E h).cast (by rw [E.zx]; omega) (by rw [E.zy]; omega)⟩
theorem wk_it : ∀ k : Nat, Wk f f' g g' (it f k 0) k 0
  | 0 => .o
  | k + 1 => (wk_it k).r.cast (by omega) rfl
theorem wk_itg : ∀ k : Nat, Wk f f' g g' (it g k 0) 0 k
  | 0 => .o
  | k + 1 => (wk_itg k).u.cast rfl (by omega)
theorem per_uniq (pf : IsP n f f') (pg : IsP n g g') (h0 : 0 < n) {px py qx qy : Nat → Int} {A' B' C' : Int} (E : Edg n f g px py A B C) (P : Per f f' g g' A B C) (N : NFm A B C) (E' : Edg n f g qx qy A' B' C') (P' : Per f f' g g' A' B' C') (N' : NFm A' B' C') : A = A' ∧ B = B' ∧ C = C' := by
  obtain ⟨k, hk0, hk⟩ : ∃ k, 0 < k ∧ it f k 0 = 0 := ⟨ordr f 0, (ordr_spec pf h0).1, (ordr_spec pf h0).2.1⟩
  obtain ⟨m, hm0, hm⟩ : ∃ k, 0 < k ∧ it g k 0 = 0 := ⟨ordr g 0, (ordr_spec pg h0).1, (ordr_spec pg h0).2.1⟩
  have w1 : Wk f f' g g' 0 k 0 := by have := wk_it (f := f) (f' := f') (g := g) (g' := g') k; rwa [hk] at this
  have w2 : Wk f f' g g' 0 0 m := by have := wk_itg (f := f) (f' := f') (g := g) (g' := g') m; rwa [hm] at this
  have pos : ∀ {A B C : Int}, NFm A B C → (∀ x y, Ltt A B C x y ↔ Wk f f' g g' 0 x y) → 0 < A ∧ 0 < C := fun {A B C} N e => by
    have hC : 0 < C := by
      obtain ⟨i, j, h1, h2⟩ := (e _ _).2 w2
      rcases Int.lt_or_le 0 C with h | h
      · exact h
      · have := N.c
        have : C = 0 := by omega
        subst this
        omega
    refine ⟨?_, hC⟩
    obtain ⟨i, j, h1, h2⟩ := (e _ _).2 w1
    have hj : j = 0 := by
      rcases Int.mul_eq_zero.1 h2.symm with h | h
      · exact h
      · omega
    subst hj
    have := N.a
    rcases Int.lt_or_le 0 A with h | h
    · exact h
    · have : A = 0 := by omega
      subst this
      omega
  have e1 := per_iff pf pg h0 E P
  have e2 := per_iff pf pg h0 E' P'
  obtain ⟨p1, p2⟩ := pos N e1
  obtain ⟨p3, p4⟩ := pos N' e2
  exact nf_uniq N N' p1 p2 p3 p4 fun x y => (e1 x y).trans (e2 x y).symm
end
end Go.PI
/- CONJUGATE PERMUTATIONS have cycles of the same lengths; quotients rounded down. -/
namespace Go.PI
section
variable {n : Nat} {c c' d d' h h' : Nat → Nat}
def Conj (n : Nat) (c d h : Nat → Nat) : Prop := ∀ x, x < n → d (h x) = h (c x)
theorem conj_it (hc : IsP n c c') (k : Conj n c d h) {x : Nat} (hx : x < n) : ∀ m, it d m (h x) = h (it c m x)
  | 0 => rfl
  | m + 1 => by simp only [it]; rw [conj_it hc k hx m, k _ (it_lt hc hx m)]
theorem conj_ordr (hc : IsP n c c') (hd : IsP n d d') (hh : IsP n h h') (k : Conj n c d h) {x : Nat} (hx : x < n) : ordr d (h x) = ordr c x := by
  obtain ⟨a1, a2, a3, a4⟩ := ordr_spec hc hx
  obtain ⟨b1, b2, b3, b4⟩ := ordr_spec hd (hh.lt x hx)
  have e : ∀ m, it d m (h x) = h x ↔ it c m x = x := fun m => by
    rw [conj_it hc k hx]
    exact ⟨fun e => hh.inj (it_lt hc hx m) hx e, fun e => by rw [e]⟩
  rcases Nat.lt_trichotomy (ordr d (h x)) (ordr c x) with g | g | g
  · exact absurd ((e _).1 b2) (a4 _ b1 g)
  · exact g
  · exact absurd ((e _).2 a2) (b4 _ a1 g)
open Classical in
/-- how many elements are in cycles of a length -/
noncomputable def elems (n : Nat) (c : Nat → Nat) (m : Nat) : List Nat := (List.range n).filter fun x => decide (ordr c x = m)
open Classical in
/-- the cycles of a length, by their least elements -/
noncomputable def leads (n : Nat) (c : Nat → Nat) (m : Nat) : List Nat := (List.range n).filter fun x => decide (lead c x ∧ ordr c x = m)
theorem mem_elems {m x : Nat} : x ∈ elems n c m ↔ x < n ∧ ordr c x = m := by simp [elems]
theorem mem_leads {m x : Nat} : x ∈ leads n c m ↔ x < n ∧ lead c x ∧ ordr c x = m := by simp [leads]
theorem nodup_range (n : Nat) : (List.range n).Nodup := by
  unfold List.Nodup
  exact List.pairwise_lt_range.imp fun h e => by omega
theorem elems_nodup {m : Nat} : (elems n c m).Nodup := (nodup_range n).filter _
theorem leads_nodup {m : Nat} : (leads n c m).Nodup := (nodup_range n).filter _
theorem conj_elems (hc : IsP n c c') (hd : IsP n d d') (hh : IsP n h h') (k : Conj n c d h) (m : Nat) : (elems n c m).length ≤ (elems n d m).length := by
  have hn : ((elems n c m).map h).Nodup := by
    unfold List.Nodup
    rw [List.pairwise_map]
    refine (elems_nodup (n := n) (c := c) (m := m)).imp_of_mem fun {a b} ha hb hab e => hab (hh.inj (mem_elems.1 ha).1 (mem_elems.1 hb).1 e)
  have := len_le_of hn (m := elems n d m) fun y hy => by
    obtain ⟨x, hx, rfl⟩ := List.mem_map.1 hy
    obtain ⟨h1, h2⟩ := mem_elems.1 hx
    exact mem_elems.2 ⟨hh.lt x h1, by rw [conj_ordr hc hd hh k h1, h2]⟩
  rwa [List.length_map] at this
theorem Conj.inv (hc : IsP n c c') (hh : IsP n h h') (k : Conj n c d h) (hd : IsP n d d') : Conj n d c h' := fun x hx => by
  have := k (h' x) (hh.glt x hx)
  rw [hh.fg x hx] at this
  rw [this, hh.gf _ (hc.lt _ (hh.glt x hx))]
theorem conj_count (hc : IsP n c c') (hd : IsP n d d') (hh : IsP n h h') (k : Conj n c d h) (m : Nat) : (elems n c m).length = (elems n d m).length :=
  Nat.le_antisymm (conj_elems hc hd hh k m) (conj_elems hd hc hh.inv (k.inv hc hh hd) m)
noncomputable def cycN (c : Nat → Nat) (x : Nat) : List Nat := (List.range (ordr c x)).map fun k => it c k x
theorem cycN_mem (hc : IsP n c c') {x y : Nat} (hx : x < n) : y ∈ cycN c x ↔ InC c x y := by
  have := mem_cyc hc hx (v := (y : Int))
  constructor
  · intro hy
    obtain ⟨k, -, rfl⟩ := List.mem_map.1 hy
    exact ⟨k, rfl⟩
  · intro hy
    obtain ⟨k, hk, e⟩ := List.mem_map.1 (this.2 ⟨y, rfl, hy⟩)
    exact List.mem_map.2 ⟨k, hk, by omega⟩
theorem cycN_nodup (hc : IsP n c c') {x : Nat} (hx : x < n) : (cycN c x).Nodup := by
  obtain ⟨o1, o2, o3, o4⟩ := ordr_spec hc hx
  unfold cycN List.Nodup
  rw [List.pairwise_map]
  refine List.pairwise_lt_range.imp_of_mem fun {a b} ha hb hab e => ?_
  have hb' := List.mem_range.1 hb
  have e2 : it c b x = it c a (it c (b - a) x) := by rw [← it_add]; congr 1; omega
  rw [e2] at e
  exact o4 (b - a) (by omega) (by omega) (it_inj hc hx (it_lt hc hx _) e).symm
theorem inC_ordr (hc : IsP n c c') {x y : Nat} (hx : x < n) (h : InC c x y) : ordr c y = ordr c x := by
  obtain ⟨k, rfl⟩ := h
  exact conj_ordr hc hc (h := it c k) (h' := it c' k) ⟨fun i hi => it_lt hc hi k, fun i hi => it_lt hc.inv hi k, fun i hi => by
      induction k with
      | zero => rfl
      | succ k ih => rw [show it c (k + 1) i = c (it c k i) from rfl, it_succ', hc.gf _ (it_lt hc hi k), ih], fun i hi => by
      induction k with
      | zero => rfl
      | succ k ih => rw [show it c' (k + 1) i = c' (it c' k i) from rfl, it_succ', hc.fg _ (it_lt hc.inv hi k), ih]⟩ (fun x hx => by rw [← it_succ']; rfl) hx
theorem lead_ex (hc : IsP n c c') {x : Nat} (hx : x < n) : ∃ y, y < n ∧ lead c y ∧ InC c y x := by
  obtain ⟨y, hy, hl⟩ := ex_least (P := fun y => InC c x y) ⟨x, InC.refl _ _⟩
  have hyn : y < n := by
    obtain ⟨k, rfl⟩ := hy
    exact it_lt hc hx k
  refine ⟨y, hyn, fun z hz => ?_, hy.symm hc hx⟩
  rcases Nat.lt_or_ge z y with a | a
  · exact absurd (hy.trans hz) (hl z a)
  · exact a
theorem leads_count (hc : IsP n c c') (m : Nat) : m * (leads n c m).length = (elems n c m).length := by
  have hlen : ((leads n c m).flatMap (cycN c)).length = m * (leads n c m).length := by
    have : ∀ (L : List Nat), (∀ x ∈ L, ordr c x = m) → (L.flatMap (cycN c)).length = m * L.length := by
      intro L
      induction L with
      | nil => intro _; simp
      | cons a L ih =>
        intro hL
        rw [List.flatMap_cons, List.length_append, ih fun x hx => hL x (by simp [hx])]
        have : (cycN c a).length = m := by rw [← hL a (by simp)]; simp [cycN]
        rw [this, List.length_cons, Nat.mul_succ]
        omega
    exact this _ fun x hx => (mem_leads.1 hx).2.2
  rw [← hlen]
  apply Nat.le_antisymm
  · refine len_le_of ?_ fun y hy => ?_
    · unfold List.Nodup
      rw [List.pairwise_flatMap]
      refine ⟨fun a ha => cycN_nodup hc (mem_leads.1 ha).1, leads_nodup.imp_of_mem fun {a b} ha hb hab x hx y hy e => ?_⟩
      subst e
      obtain ⟨a1, a2, a3⟩ := mem_leads.1 ha
      obtain ⟨b1, b2, b3⟩ := mem_leads.1 hb
      have hx' := (cycN_mem hc a1).1 hx
      have hy' := (cycN_mem hc b1).1 hy
      have q1 := a2 b (hx'.trans (hy'.symm hc b1))
      have q2 := b2 a (hy'.trans (hx'.symm hc a1))
      exact hab (Nat.le_antisymm q1 q2)
    · obtain ⟨a, ha, hy⟩ := List.mem_flatMap.1 hy
      obtain ⟨a1, a2, a3⟩ := mem_leads.1 ha
      have hy' := (cycN_mem hc a1).1 hy
      refine mem_elems.2 ⟨?_, by rw [inC_ordr hc a1 hy', a3]⟩
      obtain ⟨k, rfl⟩ := hy'
      exact it_lt hc a1 k
  · refine len_le_of elems_nodup fun x hx => ?_
    obtain ⟨h1, h2⟩ := mem_elems.1 hx
    obtain ⟨y, hy, hl, hc2⟩ := lead_ex hc h1
    exact List.mem_flatMap.2 ⟨y, mem_leads.2 ⟨hy, hl, by rw [← inC_ordr hc hy hc2, h2]⟩, (cycN_mem hc hy).2 hc2⟩
theorem leads_zero (hc : IsP n c c') : leads n c 0 = [] := by
  refine List.eq_nil_iff_forall_not_mem.2 fun x hx => ?_
  obtain ⟨h1, h2, h3⟩ := mem_leads.1 hx
  have := (ordr_spec hc h1).1
  omega
theorem conj_leads (hc : IsP n c c') (hd : IsP n d d') (hh : IsP n h h') (k : Conj n c d h) (m : Nat) : (leads n c m).length = (leads n d m).length := by
  rcases Nat.eq_zero_or_pos m with rfl | hm
  · rw [leads_zero hc, leads_zero hd]
  · have a := leads_count hc m
    have b := leads_count hd m
    rw [conj_count hc hd hh k m, ← b] at a
    exact Nat.eq_of_mul_eq_mul_left hm a
end
def FloorIs (p q k : Int) : Prop := ∃ m, p = k * q + m ∧ (0 < q → 0 ≤ m ∧ m < q) ∧ (q < 0 → q < m ∧ m ≤ 0)
end Go.PI
/- PLAIN VALUES: the body of a loop over a function. -/
namespace Go.PI
def pfold (T : List PV) : List Tmp → List PV → List PV
  | p :: ps, a :: as => pfold (T.set p a) ps as
  | _, _ => T
theorem pfold_rel {H : Heap} {W : Nat → Prop} {β : List Nat} : ∀ {ps : List Tmp} {T : List PV} {T' : List AV} {as : List PV} {bs : List AV}, All2 (RelV H W β) T T' → All2 (RelV H W β) as bs → All2 (RelV H W β) (pfold T ps as) (foldPar T' ps bs)
  | [], T, T', as, bs, h, k => by
    cases k <;> exact h
  | p :: ps, T, T', as, bs, h, k => by
    cases k with
    | nil => exact h
    | cons a b => exact pfold_rel (ps := ps) (All2.set h a p) b
def Ex.cont (e : Ex) : Bool := e.jump.isNone
def LpD.to (y : LpD) (e : Ex) : LpD := { y with st := if e.cont then .ready else .done, e := e }
def LpD.busy (y : LpD) : LpD := { y with st := .busy }
theorem cy_of (O : Opn) {C : Ctx} {i : Nat} {ps : List PV} {σ : List StB} {d : Nat} {Q : Bool → List StB → Prop} {x : LpD} (hi : σ[i]? = some (.lp x)) (hst : x.st = .ready) (hlen : ps.length = x.ps.size)
    (h : ∀ c k, k + d ≤ c → wC O (some i) C c x.as ⟨pfold x.T x.ps.toList ps, σ, k⟩ fun e s => e = .normal ∧ ∃ y, s.σ[i]? = some (.lp y) ∧ y.st = .ready ∧
      wC O (some i) C c x.bd ⟨s.T, s.σ.set i (.lp y.busy), s.k⟩ fun e s2 => ∃ z, s2.σ[i]? = some (.lp z) ∧ s2.k ≤ k + d ∧ Q e.cont (s2.σ.set i (.lp (z.to e)))) : Cy C i ps σ d Q := by
  intro H0 W0 c k W β H as l I hc hl hr
  obtain ⟨hW, L, hL, hx⟩ := I.lop i x l hi hl
  have hst0 : SR (some i) W β H H0 W0 c ⟨pfold x.T x.ps.toList ps, σ, k⟩ ⟨foldPar L.tmps L.params.toList as, H, []⟩ := by
    refine ⟨W, β, ⟨fun _ => rfl, List.nodup_nil, fun d hd => by cases hd⟩, Ext.refl _ _ _, I, ?_⟩
    rw [hx.ps]
    exact pfold_rel hx.T hr
  obtain ⟨n1, e1, t1, h1, s1, ⟨W1, β1, hd1, E1, I1, hr1⟩, he1, y, hy, hyst, h2⟩ := wC_ok (rd := some i) (rdH := some l) (show β[i]? = some l from hl) (h c k hc) hst0
  subst he1
  obtain ⟨T1, H1, D1⟩ := t1
  simp only at hd1 E1 I1 hr1 h2
  have hD1 : D1 = [] := hd1.nil rfl
  subst hD1
  have hl1 := E1.bt _ _ hl
  obtain ⟨hW1, L1, hL1, hy1⟩ := I1.lop i y l hy hl1
  obtain ⟨E2, I2⟩ := I1.writeB hy rfl hl1 (y := .lp y.busy) (bk := .loop { L1 with state := .busy }) ⟨_, rfl, rfl, hy1.e, hy1.ps, hy1.as, hy1.bd, hy1.T⟩
  have E12 := E1.trans E2
  have hst2 : SR (some i) W1 β1 (H1.set l (.loop { L1 with state := .busy })) H0 W0 c ⟨s1.T, s1.σ.set i (.lp y.busy), s1.k⟩ ⟨T1, H1.set l (.loop { L1 with state := .busy }), []⟩ :=
    ⟨W1, β1, ⟨fun _ => rfl, List.nodup_nil, fun d hd => by cases hd⟩, Ext.refl _ _ _, I2, RelVs.ext E2 hr1⟩
  obtain ⟨n2, e2, t2, h3, s2, ⟨W2, β2, hd2, E3, I3, hr2⟩, z, hz, hk, hQ⟩ := wC_ok (rd := some i) (rdH := some l) (show β1[i]? = some l from hl1) h2 hst2
  obtain ⟨T2, H2, D2⟩ := t2
  simp only at hd2 E3 I3 hr2 hz hk hQ
  have hD2 : D2 = [] := hd2.nil rfl
  subst hD2
  have hl2 := E3.bt _ _ hl1
  obtain ⟨hW2, L2, hL2, hz2⟩ := I3.lop i z l hz hl2
  obtain ⟨E4, I4⟩ := I3.writeB hz rfl hl2 (y := .lp (z.to e2)) (bk := .loop { L2 with state := if e2.jump.isNone then .ready else .done, pending := e2.jump }) ⟨_, rfl, rfl, rfl, hz2.ps, hz2.as, hz2.bd, hz2.T⟩
  refine ⟨max n1 n2, .bool e2.jump.isNone, H2.set l (.loop { L2 with state := if e2.jump.isNone then .ready else .done, pending := e2.jump }), ?_, e2.cont, _, s2.k, W2, β2, (E12.trans E3).trans E4, I4, rfl, hQ, hk⟩
  have hal : as.length = L.params.size := by rw [hx.ps, ← hlen, hr.length]
  rw [← hx.as] at h1
  rw [← hx.bd] at h3
  have h1' := ev_mono (Nat.le_max_left n1 n2) _ _ _ _ h1
  have h3' : ev C (max n1 n2) (some l) L.body ⟨T1, H1.set l (.loop { L1 with state := .busy }), []⟩ = some (e2, ⟨T2, H2, []⟩) := ev_mono (Nat.le_max_right n1 n2) _ _ _ _ h3
  simp only [yieldF, hL]
  rw [if_pos ⟨hal, hx.st.trans hst⟩, h1']
  simp only [hL1]
  rw [if_pos (hy1.st.trans hyst), h3']
  simp only [hL2]
end Go.PI
/- PLACES OF SQUARES: what is known while they are found. -/
namespace Go.PI
def nbE (f g : Nat → Nat) (e : Bool) (w : Nat) : Nat := if e then f w else g w
def dxE (e : Bool) : Int := if e then 1 else 0
def dyE (e : Bool) : Int := if e then 0 else 1
abbrev Plc := Nat → Option (Int × Int)
def updP (Pl : Plc) (z : Nat) (p : Int × Int) : Plc := fun y => if y = z then some p else Pl y
def EdK (f g : Nat → Nat) (Pl : Plc) (A B C : Int) (e : Bool) (w : Nat) : Prop := ∃ ps pr, Pl w = some ps ∧ Pl (nbE f g e w) = some pr ∧ Ltt A B C (ps.1 + dxE e - pr.1) (ps.2 + dyE e - pr.2)
structure PM (n : Nat) (f f' g g' : Nat → Nat) (P Q : List Nat) (Pl : Plc) (A B C : Int) : Prop where
  nd : (P ++ Q).Nodup
  lt : ∀ y ∈ P ++ Q, y < n
  kn : ∀ y, (∃ p, Pl y = some p) ↔ y ∈ P ++ Q
  wk : ∀ y p, Pl y = some p → Wk f f' g g' y p.1 p.2
  bd : ∀ y p, Pl y = some p → 0 ≤ p.1 ∧ 0 ≤ p.2 ∧ p.1 + p.2 < (P ++ Q).length
  z : Pl 0 = some (0, 0)
  ed : ∀ s ∈ P, ∀ e, EdK f g Pl A B C e s
  per : Per f f' g g' A B C
  nf : NFm A B C
  bl : Bdl 1900 A B C
section
variable {n : Nat} {f f' g g' : Nat → Nat} {P Q : List Nat} {Pl : Plc} {A B C : Int}
theorem wk_e {s : Nat} {x y : Int} (h : Wk f f' g g' s x y) (e : Bool) : Wk f f' g g' (nbE f g e s) (x + dxE e) (y + dyE e) := by
  cases e with
  | true => exact h.r.cast rfl (by show y + 0 = y; omega)
  | false => exact h.u.cast (by show x + 0 = x; omega) rfl
theorem dE_pos (e : Bool) : 0 ≤ dxE e ∧ 0 ≤ dyE e ∧ dxE e + dyE e = 1 := by cases e <;> decide
theorem PM.len (h : PM n f f' g g' P Q Pl A B C) : (P ++ Q).length ≤ n := by
  have := len_le_of h.nd (m := List.range n) fun y hy => List.mem_range.2 (h.lt y hy)
  rwa [List.length_range] at this
theorem PM.start (h0 : 0 < n) : PM n f f' g g' [] [0] (updP (fun _ => none) 0 (0, 0)) 0 0 0 := by
  have k : ∀ y p, updP (fun _ => none) 0 (0, 0) y = some p → y = 0 ∧ p = (0, 0) := fun y p h => by
    unfold updP at h
    split at h
    · exact ⟨by assumption, (Option.some.inj h).symm⟩
    · cases h
  refine ⟨by simp, fun y hy => ?_, fun y => ⟨?_, fun hy => ?_⟩, fun y p h => ?_, fun y p h => ?_, rfl, fun s hs => (by cases hs), per_zero, nf_zero, bd_zero (by omega)⟩
  · simp at hy; omega
  · rintro ⟨p, hp⟩
    rw [(k y p hp).1]; simp
  · simp at hy; subst hy; exact ⟨_, rfl⟩
  · obtain ⟨rfl, rfl⟩ := k y p h
    exact .o
  · obtain ⟨rfl, rfl⟩ := k y p h
    simp
theorem upd_old {z y : Nat} {p q : Int × Int} (hz : Pl z = none) (h : Pl y = some q) : updP Pl z p y = some q := by
  unfold updP
  rw [if_neg (fun e => by subst e; rw [hz] at h; cases h)]
  exact h
theorem upd_new {z : Nat} {p : Int × Int} : updP Pl z p z = some p := by unfold updP; rw [if_pos rfl]
theorem EdK.upd {z : Nat} {p : Int × Int} {e : Bool} {w : Nat} (hz : Pl z = none) (h : EdK f g Pl A B C e w) : EdK f g (updP Pl z p) A B C e w := by
  obtain ⟨ps, pr, h1, h2, h3⟩ := h
  exact ⟨ps, pr, upd_old hz h1, upd_old hz h2, h3⟩
theorem EdK.mono {X Y A' B' C' : Int} {e : Bool} {w : Nat} (he : ∀ x y, Ltt A' B' C' x y ↔ Spn A B C X Y x y) (h : EdK f g Pl A B C e w) : EdK f g Pl A' B' C' e w := by
  obtain ⟨ps, pr, h1, h2, h3⟩ := h
  exact ⟨ps, pr, h1, h2, ltt_mono he h3⟩
theorem PM.put (pf : IsP n f f') (pg : IsP n g g') {w : Nat} (h : PM n f f' g g' P (w :: Q) Pl A B C) {e : Bool} {ps : Int × Int} (hw : Pl w = some ps) (hz : Pl (nbE f g e w) = none) :
    PM n f f' g g' P (w :: (Q ++ [nbE f g e w])) (updP Pl (nbE f g e w) (ps.1 + dxE e, ps.2 + dyE e)) A B C ∧ EdK f g (updP Pl (nbE f g e w) (ps.1 + dxE e, ps.2 + dyE e)) A B C e w := by
  obtain ⟨z, hzz⟩ : ∃ z, nbE f g e w = z := ⟨_, rfl⟩
  have hwk := wk_e (h.wk w ps hw) e
  rw [hzz] at hz hwk ⊢
  have hb := h.bd w ps hw
  have hde := dE_pos e
  have hzn : z < n := by
    have hwn := h.lt w (by simp)
    rw [← hzz]; unfold nbE; split
    · exact pf.lt w hwn
    · exact pg.lt w hwn
  have hne : z ∉ P ++ w :: Q := fun hm => by
    obtain ⟨p, hp⟩ := (h.kn z).2 hm
    rw [hz] at hp; cases hp
  have hl : P ++ w :: (Q ++ [z]) = (P ++ w :: Q) ++ [z] := by simp
  refine ⟨⟨?_, fun y hy => ?_, fun y => ?_, fun y p hp => ?_, fun y p hp => ?_, upd_old hz h.z, fun s hs e' => (h.ed s hs e').upd hz, h.per, h.nf, h.bl⟩, ?_⟩
  · rw [hl]
    exact List.nodup_append.2 ⟨h.nd, by simp, fun a ha b hb2 => by rw [List.mem_singleton.1 hb2]; rintro rfl; exact hne ha⟩
  · rw [hl] at hy
    rcases List.mem_append.1 hy with hy | hy
    · exact h.lt y hy
    · rw [List.mem_singleton.1 hy]; exact hzn
  · rw [hl, List.mem_append, List.mem_singleton, ← h.kn y]
    unfold updP
    by_cases e2 : y = z
    · rw [if_pos e2]; exact ⟨fun _ => .inr e2, fun _ => ⟨_, rfl⟩⟩
    · rw [if_neg e2]; exact ⟨.inl, fun h => h.resolve_right e2⟩
  · unfold updP at hp
    by_cases e2 : y = z
    · rw [if_pos e2] at hp
      rw [e2, ← Option.some.inj hp]; exact hwk
    · rw [if_neg e2] at hp; exact h.wk y p hp
  · rw [hl, List.length_append, List.length_singleton]
    unfold updP at hp
    by_cases e2 : y = z
    · rw [if_pos e2] at hp
      rw [← Option.some.inj hp]
      refine ⟨by show 0 ≤ ps.1 + dxE e; omega, by show 0 ≤ ps.2 + dyE e; omega, by show ps.1 + dxE e + (ps.2 + dyE e) < _; omega⟩
    · rw [if_neg e2] at hp
      have := h.bd y p hp
      exact ⟨this.1, this.2.1, by omega⟩
  · refine ⟨ps, _, upd_old hz hw, by rw [hzz]; exact upd_new, ?_⟩
    exact Ltt.cast (x := 0) (y := 0) ⟨0, 0, by omega, by omega⟩ (by show ps.1 + dxE e - (ps.1 + dxE e) = 0; omega) (by show ps.2 + dyE e - (ps.2 + dyE e) = 0; omega)
theorem PM.diff (h : PM n f f' g g' P Q Pl A B C) (hn : n ≤ 30) {w z : Nat} {e : Bool} {ps pr : Int × Int} (hw : Pl w = some ps) (hz : Pl z = some pr) : (ps.1 + dxE e - pr.1).natAbs ≤ 30 ∧ (ps.2 + dyE e - pr.2).natAbs ≤ 30 := by
  have h1 := h.bd w ps hw
  have h2 := h.bd z pr hz
  have h3 := h.len
  have h4 := dE_pos e
  exact ⟨by omega, by omega⟩
theorem PM.span (pf : IsP n f f') (pg : IsP n g g') (h0 : 0 < n) (h : PM n f f' g g' P Q Pl A B C) {w : Nat} {e : Bool} {ps pr : Int × Int} (hw : Pl w = some ps) (hz : Pl (nbE f g e w) = some pr) {A' B' C' : Int} (hN : NFm A' B' C') (hB : Bdl 1900 A' B' C') (he : ∀ x y, Ltt A' B' C' x y ↔ Spn A B C (ps.1 + dxE e - pr.1) (ps.2 + dyE e - pr.2) x y) :
    PM n f f' g g' P Q Pl A' B' C' ∧ EdK f g Pl A' B' C' e w := by
  refine ⟨⟨h.nd, h.lt, h.kn, h.wk, h.bd, h.z, fun s hs e' => (h.ed s hs e').mono he, per_next pf pg h0 h.per ?_ he, hN, hB⟩, ps, pr, hw, hz, ltt_new he⟩
  exact wk_sub pf pg h0 (h.wk _ _ hz) (wk_e (h.wk _ _ hw) e)
theorem PM.pop {w : Nat} (h : PM n f f' g g' P (w :: Q) Pl A B C) (h1 : EdK f g Pl A B C true w) (h2 : EdK f g Pl A B C false w) : PM n f f' g g' (P ++ [w]) Q Pl A B C := by
  have hl : P ++ [w] ++ Q = P ++ w :: Q := by simp
  refine ⟨by rw [hl]; exact h.nd, by rw [hl]; exact h.lt, by rw [hl]; exact h.kn, h.wk, by rw [hl]; exact h.bd, h.z, fun s hs e => ?_, h.per, h.nf, h.bl⟩
  rcases List.mem_append.1 hs with hs | hs
  · exact h.ed s hs e
  · rw [List.mem_singleton.1 hs]
    cases e with
    | true => exact h1
    | false => exact h2
theorem PM.fin (hcn : Conn n f g) (h0 : 0 < n) (h : PM n f f' g g' P [] Pl A B C) : ∃ px py, Edg n f g px py A B C := by
  have hk : ∀ y, Rch f g 0 y → y ∈ P := fun y hr => by
    have m0 : ∀ y p, Pl y = some p → y ∈ P := fun y p hp => by
      have := (h.kn y).1 ⟨p, hp⟩
      rwa [List.append_nil] at this
    induction hr with
    | refl => exact m0 _ _ h.z
    | f _ ih => obtain ⟨ps, pr, -, h2, -⟩ := h.ed _ ih true; exact m0 _ _ h2
    | g _ ih => obtain ⟨ps, pr, -, h2, -⟩ := h.ed _ ih false; exact m0 _ _ h2
  have gt : ∀ {y p}, Pl y = some p → ((Pl y).getD (0, 0)) = p := fun {y p} hp => by rw [hp]; rfl
  refine ⟨fun y => ((Pl y).getD (0, 0)).1, fun y => ((Pl y).getD (0, 0)).2, by show ((Pl 0).getD (0, 0)).1 = 0; rw [gt h.z], by show ((Pl 0).getD (0, 0)).2 = 0; rw [gt h.z], fun s hs => ?_, fun s hs => ?_⟩
  · obtain ⟨ps, pr, h1, h2, h3⟩ := h.ed s (hk s (hcn s hs)) true
    have h2 : Pl (f s) = some pr := h2
    show Ltt A B C (((Pl s).getD (0, 0)).1 + 1 - ((Pl (f s)).getD (0, 0)).1) (((Pl s).getD (0, 0)).2 - ((Pl (f s)).getD (0, 0)).2)
    rw [gt h1, gt h2]
    exact h3.cast rfl (by show ps.2 - pr.2 = ps.2 + 0 - pr.2; omega)
  · obtain ⟨ps, pr, h1, h2, h3⟩ := h.ed s (hk s (hcn s hs)) false
    have h2 : Pl (g s) = some pr := h2
    show Ltt A B C (((Pl s).getD (0, 0)).1 - ((Pl (g s)).getD (0, 0)).1) (((Pl s).getD (0, 0)).2 + 1 - ((Pl (g s)).getD (0, 0)).2)
    rw [gt h1, gt h2]
    exact h3.cast (by show ps.1 - pr.1 = ps.1 + 0 - pr.1; omega) rfl
end
end Go.PI
