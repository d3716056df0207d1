/- Own work of the verifier: IntMath PiInt0 PiDr2 PiDr4. -/
import Derived.Test.YtdflpkkgjppmgaaGreatChAK
set_option linter.all false
set_option exponentiation.threshold 3000
set_option linter.deprecated false
/- INTEGERS AS LISTS OF ELEMENTS BELOW 10^8 IN SIZE. -/
namespace Go.PI.IM
def val : List Int → Int
  | [] => 0
  | x :: xs => x + 100000000 * val xs
def pw : Nat → Int
  | 0 => 1
  | n + 1 => 100000000 * pw n
theorem pw_pos (n : Nat) : 0 < pw n := by
  induction n with
  | zero => decide
  | succ n ih => unfold pw; omega
theorem pw_add (m n : Nat) : pw (m + n) = pw m * pw n := by
  induction m with
  | zero => simp [pw]
  | succ m ih => rw [Nat.succ_add, pw, ih, pw, Int.mul_assoc]
theorem val_append (xs ys : List Int) : val (xs ++ ys) = val xs + pw xs.length * val ys := by
  induction xs with
  | nil => simp [val, pw]
  | cons x xs ih =>
    simp only [List.cons_append, val, List.length_cons, pw, ih]
    rw [Int.mul_add, Int.mul_assoc, Int.add_assoc]
theorem val_zeros (n : Nat) : val (List.replicate n 0) = 0 := by
  induction n with
  | zero => rfl
  | succ n ih => simp [List.replicate_succ, val, ih]
theorem tq (e : Int) : e = 100000000 * e.tdiv 100000000 + e.tmod 100000000 ∧ (0 ≤ e → 0 ≤ e.tmod 100000000 ∧ e.tmod 100000000 < 100000000 ∧ 0 ≤ e.tdiv 100000000) ∧ (e ≤ 0 → -100000000 < e.tmod 100000000 ∧ e.tmod 100000000 ≤ 0 ∧ e.tdiv 100000000 ≤ 0) := by
  refine ⟨(Int.mul_tdiv_add_tmod e 100000000).symm, fun h => ?_, fun h => ?_⟩
  · rw [Int.tmod_eq_emod_of_nonneg h, Int.tdiv_eq_ediv_of_nonneg h]; omega
  · obtain ⟨n, rfl⟩ : ∃ n, e = -n := ⟨-e, by omega⟩
    rw [Int.neg_tmod, Int.neg_tdiv, Int.tmod_eq_emod_of_nonneg (by omega), Int.tdiv_eq_ediv_of_nonneg (by omega)]; omega
def carryL : Int → List Int → List Int
  | _, [] => []
  | o, e :: xs => ((e.tmod 100000000 + o).tmod 100000000) :: carryL (e.tdiv 100000000 + (e.tmod 100000000 + o).tdiv 100000000) xs
def carryO : Int → List Int → Int
  | o, [] => o
  | o, e :: xs => carryO (e.tdiv 100000000 + (e.tmod 100000000 + o).tdiv 100000000) xs
theorem carry_length (xs : List Int) : ∀ o, (carryL o xs).length = xs.length := by
  induction xs with
  | nil => intro o; rfl
  | cons e xs ih => intro o; simp [carryL, ih]
theorem carry_val (xs : List Int) : ∀ o, val (carryL o xs) + pw xs.length * carryO o xs = val xs + o := by
  induction xs with
  | nil => intro o; simp [carryL, carryO, val, pw]
  | cons e xs ih =>
    intro o
    simp only [carryL, carryO, val, List.length_cons, pw]
    have := ih (e.tdiv 100000000 + (e.tmod 100000000 + o).tdiv 100000000)
    generalize carryL _ xs = ys at *
    generalize carryO _ xs = z at *
    rw [Int.mul_assoc]
    generalize pw xs.length * z = t at *
    have h1 := tq e
    have h2 := tq (e.tmod 100000000 + o)
    omega
theorem carry_small (xs : List Int) : ∀ o, ∀ x ∈ carryL o xs, -100000000 < x ∧ x < 100000000 := by
  induction xs with
  | nil => intro o x hx; cases hx
  | cons e xs ih =>
    intro o x hx
    simp only [carryL, List.mem_cons] at hx
    rcases hx with rfl | hx
    · have h2 := tq (e.tmod 100000000 + o)
      omega
    · exact ih _ x hx
def OvB (o : Int) : Prop := -100000000000 ≤ o ∧ o ≤ 100000000000
theorem ovB_next {e o : Int} (he : -9223372036854775808 ≤ e ∧ e < 9223372036854775808) (ho : OvB o) : OvB (e.tdiv 100000000 + (e.tmod 100000000 + o).tdiv 100000000) := by
  unfold OvB at *
  have h1 := tq e
  have h2 := tq (e.tmod 100000000 + o)
  omega
theorem carryO_small (xs : List Int) (h : ∀ x ∈ xs, -9223372036854775808 ≤ x ∧ x < 9223372036854775808) : ∀ o, OvB o → OvB (carryO o xs) := by
  induction xs with
  | nil => intro o ho; exact ho
  | cons e xs ih =>
    intro o ho
    exact ih (fun x hx => h x (by simp [hx])) _ (ovB_next (h e (by simp)) ho)
def overL : Nat → Int → List Int
  | 0, _ => []
  | n + 1, o => if o = 0 then [] else o.tmod 100000000 :: overL n (o.tdiv 100000000)
theorem overL_val (n : Nat) : ∀ o : Int, o.natAbs < 100000000 ^ n → val (overL n o) = o := by
  induction n with
  | zero => intro o h; simp at h; subst h; rfl
  | succ n ih =>
    intro o h
    unfold overL
    split
    · rename_i h0; subst h0; rfl
    · unfold val
      rw [ih]
      · have h1 := tq o
        omega
      · rw [Int.natAbs_tdiv]
        rw [Nat.pow_succ] at h
        exact Nat.div_lt_of_lt_mul (by rw [Nat.mul_comm]; exact h)
theorem overL_small (n : Nat) : ∀ o, ∀ x ∈ overL n o, -100000000 < x ∧ x < 100000000 := by
  induction n with
  | zero => intro o x hx; cases hx
  | succ n ih =>
    intro o x hx
    unfold overL at hx
    split at hx
    · cases hx
    · simp only [List.mem_cons] at hx
      rcases hx with rfl | hx
      · have h1 := tq o
        omega
      · exact ih _ x hx
def trimL : List Int → List Int
  | [] => []
  | x :: xs => match trimL xs with
    | [] => if x = 0 then [] else [x]
    | y :: ys => x :: y :: ys
theorem trim_val (xs : List Int) : val (trimL xs) = val xs := by
  induction xs with
  | nil => rfl
  | cons x xs ih =>
    unfold trimL
    split
    · rename_i h
      rw [h] at ih
      split
      · rename_i h0; subst h0; simp [val] at *; omega
      · simp [val] at *; omega
    · rename_i y ys h
      rw [h] at ih
      simp only [val] at *
      rw [ih]
theorem trim_mem (xs : List Int) : ∀ x ∈ trimL xs, x ∈ xs := by
  induction xs with
  | nil => intro x hx; cases hx
  | cons y ys ih =>
    intro x hx
    unfold trimL at hx
    split at hx
    · split at hx
      · cases hx
      · simp at hx; simp [hx]
    · rename_i z zs h
      rw [h] at ih
      simp only [List.mem_cons] at hx ih ⊢
      rcases hx with rfl | hx
      · exact .inl rfl
      · exact .inr (ih x hx)
def Top (xs : List Int) : Prop := xs = [] ∨ ∃ ys t, xs = ys ++ [t] ∧ t ≠ 0
theorem trim_top (xs : List Int) : Top (trimL xs) := by
  induction xs with
  | nil => exact .inl rfl
  | cons x xs ih =>
    unfold trimL
    split
    · split
      · exact .inl rfl
      · rename_i h0; exact .inr ⟨[], x, rfl, h0⟩
    · rename_i y ys h
      rw [h] at ih
      rcases ih with ih | ⟨zs, t, h1, h2⟩
      · cases ih
      · exact .inr ⟨x :: zs, t, by rw [h1]; rfl, h2⟩
theorem trim_of_top {xs : List Int} (h : Top xs) : trimL xs = xs := by
  rcases h with rfl | ⟨ys, t, rfl, ht⟩
  · rfl
  · induction ys with
    | nil => simp [trimL, ht]
    | cons y ys ih =>
      simp only [List.cons_append]
      unfold trimL
      rw [ih]
      cases ys <;> rfl
theorem trim_zeros (xs : List Int) (n : Nat) : trimL (xs ++ List.replicate n 0) = trimL xs := by
  induction xs with
  | nil =>
    induction n with
    | zero => rfl
    | succ n ih => simp only [List.nil_append, List.replicate_succ] at *; unfold trimL; rw [ih]; rfl
  | cons x xs ih => simp only [List.cons_append]; unfold trimL; rw [ih]
theorem trim_take (xs : List Int) : trimL xs = xs.take (trimL xs).length ∧ (∀ i, (trimL xs).length ≤ i → i < xs.length → xs[i]? = some 0) ∧ (trimL xs).length ≤ xs.length := by
  induction xs with
  | nil => exact ⟨rfl, fun i _ h => by simp at h, Nat.le_refl _⟩
  | cons x xs ih =>
    obtain ⟨h1, h2, h3⟩ := ih
    unfold trimL
    split
    · rename_i h
      rw [h] at h1 h2
      split
      · rename_i h0
        subst h0
        refine ⟨rfl, fun i _ hi => ?_, Nat.zero_le _⟩
        cases i with
        | zero => rfl
        | succ i => simpa using h2 i (Nat.zero_le _) (by simpa using hi)
      · refine ⟨by simp, fun i hi hl => ?_, by simp⟩
        cases i with
        | zero => simp at hi
        | succ i => simpa using h2 i (Nat.zero_le _) (by simpa using hl)
    · rename_i y ys h
      rw [h] at h1 h2 h3
      refine ⟨by simp only [List.length_cons, List.take_succ_cons] at *; rw [← h1], fun i hi hl => ?_, by simp only [List.length_cons] at *; omega⟩
      cases i with
      | zero => simp at hi
      | succ i => simpa using h2 i (by simpa using hi) (by simpa using hl)
def borrowB (u : Int) : Int → List Int → List Int
  | _, [] => []
  | d, [x] => [x - d]
  | d, x :: y :: ys => if (x - d) * u < 0 then (x - d + u * 100000000) :: borrowB u u (y :: ys) else (x - d) :: borrowB u 0 (y :: ys)
theorem borrow_val (u : Int) : ∀ (xs : List Int) (d : Int), xs ≠ [] → val (borrowB u d xs) = val xs - d := by
  intro xs
  induction xs with
  | nil => intro d h; exact absurd rfl h
  | cons x xs ih =>
    intro d _
    cases xs with
    | nil => simp only [borrowB, val]; omega
    | cons y ys =>
      unfold borrowB
      split
      · simp only [val]
        rw [ih u (by simp)]
        simp only [val]
        omega
      · simp only [val]
        rw [ih 0 (by simp)]
        simp only [val]
        omega
theorem borrow_length (u : Int) : ∀ (xs : List Int) (d : Int), (borrowB u d xs).length = xs.length := by
  intro xs
  induction xs with
  | nil => intro d; rfl
  | cons x xs ih =>
    intro d
    cases xs with
    | nil => rfl
    | cons y ys =>
      unfold borrowB
      split
      · simp only [List.length_cons]; rw [ih u]; rfl
      · simp only [List.length_cons]; rw [ih 0]; rfl
def Side (u : Int) (xs : List Int) : Prop := ∀ x ∈ xs, 0 ≤ x * u ∧ x * u < 100000000
theorem borrow_side {u : Int} (hu : u = 1 ∨ u = -1) : ∀ (ys : List Int) (t : Int), (∀ x ∈ ys, -100000000 < x ∧ x < 100000000) → -100000000 < t ∧ t < 100000000 → 0 < t * u → ∀ d : Int, (d = 0 ∨ d = u) → Side u (borrowB u d (ys ++ [t])) := by
  intro ys
  induction ys with
  | nil =>
    intro t _ ht htu d hd x hx
    simp [borrowB] at hx
    subst hx
    rcases hu with rfl | rfl <;> rcases hd with rfl | rfl <;> omega
  | cons y ys ih =>
    intro t hs ht htu d hd
    have hy := hs y (by simp)
    have ih := ih t (fun x hx => hs x (by simp [hx])) ht htu
    obtain ⟨z, zs, hz⟩ : ∃ z zs, ys ++ [t] = z :: zs := by cases ys <;> exact ⟨_, _, rfl⟩
    simp only [List.cons_append]
    rw [hz] at ih ⊢
    unfold borrowB
    split
    · intro x hx
      simp only [List.mem_cons] at hx
      rcases hx with rfl | hx
      · rcases hu with rfl | rfl <;> rcases hd with rfl | rfl <;> omega
      · exact ih u (.inr rfl) x hx
    · intro x hx
      simp only [List.mem_cons] at hx
      rcases hx with rfl | hx
      · rcases hu with rfl | rfl <;> rcases hd with rfl | rfl <;> omega
      · exact ih 0 (.inl rfl) x hx
def digF : Nat → Nat → List Nat
  | 0, _ => []
  | f + 1, n => if n = 0 then [] else n % 100000000 :: digF f (n / 100000000)
def digN (n : Nat) : List Nat := digF (n.log2 / 26 + 1) n
def digits (v : Int) : List Int :=
  match v with
  | .ofNat n => (digN n).map Int.ofNat
  | .negSucc n => (digN (n + 1)).map fun k => - Int.ofNat k
def valN : List Nat → Nat
  | [] => 0
  | x :: xs => x + 100000000 * valN xs
def TopN (xs : List Nat) : Prop := ∀ t, xs.getLast? = some t → t ≠ 0
theorem digF_val (f : Nat) : ∀ xs : List Nat, (∀ x ∈ xs, x < 100000000) → TopN xs → valN xs < 2 ^ (26 * f) → digF f (valN xs) = xs := by
  induction f with
  | zero =>
    intro xs hs ht hv
    simp at hv
    cases xs with
    | nil => rfl
    | cons x xs =>
      exfalso
      have hz : ∀ ys : List Nat, valN ys = 0 → ∀ y ∈ ys, y = 0 := by
        intro ys
        induction ys with
        | nil => intro _ y hy; cases hy
        | cons a as ih =>
          intro h y hy
          simp only [valN] at h
          simp only [List.mem_cons] at hy
          rcases hy with rfl | hy
          · omega
          · exact ih (by omega) y hy
      obtain ⟨t, hl⟩ : ∃ t, (x :: xs).getLast? = some t := ⟨_, List.getLast?_eq_some_getLast (by simp)⟩
      exact ht t hl (hz _ hv t (List.mem_of_getLast? hl))
  | succ f ih =>
    intro xs hs ht hv
    cases xs with
    | nil => simp [valN, digF]
    | cons x xs =>
      have hx := hs x (by simp)
      have hn : valN (x :: xs) ≠ 0 := by
        intro h
        have hz : ∀ ys : List Nat, valN ys = 0 → ∀ y ∈ ys, y = 0 := by
          intro ys
          induction ys with
          | nil => intro _ y hy; cases hy
          | cons a as ih =>
            intro h y hy
            simp only [valN] at h
            simp only [List.mem_cons] at hy
            rcases hy with rfl | hy
            · omega
            · exact ih (by omega) y hy
        obtain ⟨t, hl⟩ : ∃ t, (x :: xs).getLast? = some t := ⟨_, List.getLast?_eq_some_getLast (by simp)⟩
        exact ht t hl (hz _ h t (List.mem_of_getLast? hl))
      unfold digF
      rw [if_neg hn]
      simp only [valN] at hv ⊢
      have h1 : (x + 100000000 * valN xs) % 100000000 = x := by omega
      have h2 : (x + 100000000 * valN xs) / 100000000 = valN xs := by omega
      rw [h1, h2, ih xs (fun y hy => hs y (by simp [hy]))]
      · intro t hl
        cases xs with
        | nil => simp at hl
        | cons y ys => exact ht t (by rw [List.getLast?_cons_cons]; exact hl)
      · rw [Nat.mul_succ, Nat.pow_add] at hv
        have : (100000000 : Nat) > 2 ^ 26 := by decide
        omega
theorem digN_val {xs : List Nat} (hs : ∀ x ∈ xs, x < 100000000) (ht : TopN xs) : digN (valN xs) = xs := by
  unfold digN
  refine digF_val _ xs hs ht ?_
  refine Nat.lt_of_lt_of_le Nat.lt_log2_self ?_
  exact Nat.pow_le_pow_right (by decide) (by omega)
structure Nrm (xs : List Int) : Prop where
  side : (∀ x ∈ xs, 0 ≤ x ∧ x < 100000000) ∨ (∀ x ∈ xs, -100000000 < x ∧ x ≤ 0)
  top : Top xs
theorem top_last {xs : List Int} (h : Top xs) : ∀ t, xs.getLast? = some t → t ≠ 0 := by
  intro t hl
  rcases h with rfl | ⟨ys, s, rfl, hs⟩
  · cases hl
  · simp at hl; subst hl; exact hs
theorem val_ofNat (xs : List Nat) : val (xs.map Int.ofNat) = (valN xs : Int) := by
  induction xs with
  | nil => rfl
  | cons x xs ih => simp only [List.map_cons, val, valN, ih]; simp
theorem val_neg (xs : List Int) : val (xs.map fun x => -x) = - val xs := by
  induction xs with
  | nil => rfl
  | cons x xs ih => simp only [List.map_cons, val, ih]; omega
theorem valN_pos {xs : List Nat} (hs : xs ≠ []) (ht : TopN xs) : valN xs ≠ 0 := by
  intro h
  have hz : ∀ ys : List Nat, valN ys = 0 → ∀ y ∈ ys, y = 0 := by
    intro ys
    induction ys with
    | nil => intro _ y hy; cases hy
    | cons a as ih =>
      intro h y hy
      simp only [valN] at h
      simp only [List.mem_cons] at hy
      rcases hy with rfl | hy
      · omega
      · exact ih (by omega) y hy
  obtain ⟨t, hl⟩ : ∃ t, xs.getLast? = some t := ⟨_, List.getLast?_eq_some_getLast hs⟩
  exact ht t hl (hz _ h t (List.mem_of_getLast? hl))
theorem digits_val {xs : List Int} (h : Nrm xs) : digits (val xs) = xs := by
  obtain ⟨hs, ht⟩ := h
  have hl := top_last ht
  rcases hs with hs | hs
  · obtain ⟨ns, rfl, hn⟩ : ∃ ns : List Nat, xs = ns.map Int.ofNat ∧ ∀ n ∈ ns, n < 100000000 := by
      refine ⟨xs.map Int.toNat, ?_, ?_⟩
      · rw [List.map_map]
        conv => lhs; rw [← List.map_id xs]
        exact List.map_congr_left fun x hx => by have := hs x hx; simp; omega
      · intro n hn; obtain ⟨x, hx, rfl⟩ := List.mem_map.1 hn; have := hs x hx; omega
    have htn : TopN ns := fun t h => by
      have := hl (Int.ofNat t) (by rw [List.getLast?_map, h]; rfl)
      intro h0; subst h0; exact this rfl
    rw [val_ofNat]
    show (digN (valN ns)).map Int.ofNat = _
    rw [digN_val hn htn]
  · obtain ⟨ns, rfl, hn⟩ : ∃ ns : List Nat, xs = ns.map (fun k => - Int.ofNat k) ∧ ∀ n ∈ ns, n < 100000000 := by
      refine ⟨xs.map Int.natAbs, ?_, ?_⟩
      · rw [List.map_map]
        conv => lhs; rw [← List.map_id xs]
        exact List.map_congr_left fun x hx => by have := hs x hx; simp; omega
      · intro n hn; obtain ⟨x, hx, rfl⟩ := List.mem_map.1 hn; have := hs x hx; omega
    have htn : TopN ns := fun t h => by
      have := hl (- Int.ofNat t) (by rw [List.getLast?_map, h]; rfl)
      intro h0; subst h0; exact this rfl
    have hv : val (ns.map fun k => - Int.ofNat k) = - (valN ns : Int) := by
      rw [← val_ofNat, ← val_neg, List.map_map]; rfl
    rw [hv]
    by_cases h0 : ns = []
    · subst h0; rfl
    · have hp := valN_pos h0 htn
      obtain ⟨m, hm⟩ : ∃ m, valN ns = m + 1 := ⟨valN ns - 1, by omega⟩
      rw [hm, show (-(((m + 1 : Nat)) : Int)) = Int.negSucc m from rfl]
      simp only [digits]
      rw [← hm, digN_val hn htn]
def settleL (n : Nat) (xs : List Int) : List Int :=
  let ys := trimL (carryL 0 xs ++ overL n (carryO 0 xs))
  let u := match ys.getLast? with
    | some t => if t < 0 then -1 else 1
    | none => 0
  trimL (borrowB u 0 ys)
theorem nrm_nil : Nrm [] := ⟨.inl (fun _ h => by cases h), .inl rfl⟩
theorem settle_nrm (n : Nat) (xs : List Int) : Nrm (settleL n xs) := by
  unfold settleL
  simp only
  have hs : ∀ x ∈ trimL (carryL 0 xs ++ overL n (carryO 0 xs)), -100000000 < x ∧ x < 100000000 := fun x hx => by
    rcases List.mem_append.1 (trim_mem _ x hx) with h | h
    · exact carry_small _ _ x h
    · exact overL_small _ _ x h
  have ht := trim_top (carryL 0 xs ++ overL n (carryO 0 xs))
  generalize trimL (carryL 0 xs ++ overL n (carryO 0 xs)) = ys at *
  rcases ht with rfl | ⟨zs, t, rfl, ht⟩
  · exact nrm_nil
  · have hl : (zs ++ [t]).getLast? = some t := by simp
    rw [hl]
    simp only
    have htb := hs t (by simp)
    have hz : ∀ x ∈ zs, -100000000 < x ∧ x < 100000000 := fun x hx => hs x (by simp [hx])
    refine ⟨?_, trim_top _⟩
    by_cases h0 : t < 0
    · rw [if_pos h0]
      have := borrow_side (u := -1) (.inr rfl) zs t hz htb (by omega) 0 (.inl rfl)
      exact .inr fun x hx => by have := this x (trim_mem _ x hx); omega
    · rw [if_neg h0]
      have := borrow_side (u := 1) (.inl rfl) zs t hz htb (by omega) 0 (.inl rfl)
      exact .inl fun x hx => by have := this x (trim_mem _ x hx); omega
theorem settle_val {n : Nat} {xs : List Int} (hn : (carryO 0 xs).natAbs < 100000000 ^ n) : val (settleL n xs) = val xs := by
  unfold settleL
  simp only
  have hv : val (trimL (carryL 0 xs ++ overL n (carryO 0 xs))) = val xs := by
    rw [trim_val, val_append, carry_length, overL_val n _ hn]
    have := carry_val xs 0
    omega
  generalize trimL (carryL 0 xs ++ overL n (carryO 0 xs)) = ys at *
  rw [trim_val]
  by_cases h : ys = []
  · subst h; exact hv
  · rw [borrow_val _ _ _ h, hv]; omega
theorem settle_digits {n : Nat} {xs : List Int} (hn : (carryO 0 xs).natAbs < 100000000 ^ n) : settleL n xs = digits (val xs) := by
  rw [← settle_val hn, digits_val (settle_nrm n xs)]
theorem ov_three {xs : List Int} (h : ∀ x ∈ xs, -9223372036854775808 ≤ x ∧ x < 9223372036854775808) : (carryO 0 xs).natAbs < 100000000 ^ 3 := by
  have := carryO_small xs h 0 (by unfold OvB; omega)
  unfold OvB at this
  have h3 : (100000000 : Nat) ^ 3 = 1000000000000000000000000 := by decide
  omega
end Go.PI.IM
/- SLICES OF INTEGERS IN THE HEAP OF OUR OWN. -/
namespace Go.PI
open IM
abbrev iv (n : Int) : AV := .int .i64 n
def ints (xs : List Int) : List AV := xs.map (AV.int .i64)
theorem ints_length (xs : List Int) : (ints xs).length = xs.length := by simp [ints]
theorem ints_append (xs ys : List Int) : ints (xs ++ ys) = ints xs ++ ints ys := by simp [ints]
theorem ints_take (xs : List Int) (n : Nat) : (ints xs).take n = ints (xs.take n) := by simp [ints, List.map_take]
theorem ints_get {xs : List Int} {i : Nat} {x : Int} (h : xs[i]? = some x) : (ints xs)[i]? = some (iv x) := by simp [ints, h]
theorem ints_set (xs : List Int) (i : Nat) (x : Int) : (ints xs).set i (iv x) = ints (xs.set i x) := by simp [ints, List.map_set]
theorem ints_zeros (n : Nat) : (List.replicate n [AV.int .i64 0]).flatten = ints (List.replicate n 0) := by
  induction n with
  | zero => rfl
  | succ n ih => simp only [List.replicate_succ, List.flatten_cons, ih]; simp [ints]
theorem ones_ints (xs : List Int) : ones (ints xs) = true := by
  induction xs with
  | nil => rfl
  | cons x xs ih => simp only [ints, List.map_cons, ones, AV.one, Bool.true_and]; exact ih
def Sl (H : Heap) (v : AV) (xs : List Int) : Prop :=
  match v with
  | .nils => xs = []
  | .sle => xs = []
  | .sl b o l _ => l = xs.length ∧ ∃ rw ty cs, H.get b = .cells rw ty cs ∧ o + l ≤ cs.length ∧ (cs.drop o).take l = ints xs
  | .slu b o l e => e = 1 ∧ l = xs.length ∧ ∃ rw ty cs, H.get b = .cells rw ty cs ∧ o + l ≤ cs.length ∧ (cs.drop o).take l = ints xs
  | _ => False
def addr (v : AV) (i : Nat) : AV :=
  match v with
  | .sl b o _ _ => .ptr b (o + i)
  | .slu b o _ _ => .ptr b (o + i)
  | _ => .nilp
def blk (v : AV) : Nat :=
  match v with
  | .sl b _ _ _ => b
  | .slu b _ _ _ => b
  | _ => 0
theorem Sl.mono {H H' : Heap} {v : AV} {xs : List Int} (h : Sl H v xs) (k : ∀ A, A < H.n → H'.get A = H.get A) : Sl H' v xs := by
  unfold Sl at *
  split at h <;> try exact h
  · obtain ⟨h1, rw, ty, cs, h2, h3⟩ := h
    exact ⟨h1, rw, ty, cs, by rw [k _ (Heap.lt_of_get (by rw [h2]; simp))]; exact h2, h3⟩
  · obtain ⟨h0, h1, rw, ty, cs, h2, h3⟩ := h
    exact ⟨h0, h1, rw, ty, cs, by rw [k _ (Heap.lt_of_get (by rw [h2]; simp))]; exact h2, h3⟩
structure Upd (H : Heap) (b : Nat) (x : Blk) (H' : Heap) : Prop where
  n : H'.n = H.n
  at_ : H'.get b = x
  other : ∀ A, A ≠ b → H'.get A = H.get A
theorem upd_set {H : Heap} {b : Nat} {x : Blk} (hb : b < H.n) (hn : H.n < lim) : Upd H b x (H.set b x) where
  n := rfl
  at_ := by rw [Heap.get_set hb hn, if_pos rfl]
  other := fun A hA => by rw [Heap.get_set hb hn, if_neg hA]
theorem Upd.trans {H H' H'' : Heap} {b : Nat} {x y : Blk} (h : Upd H b x H') (k : Upd H' b y H'') : Upd H b y H'' :=
  ⟨k.n.trans h.n, k.at_, fun A hA => (k.other A hA).trans (h.other A hA)⟩
theorem Upd.refl {H : Heap} {b : Nat} {x : Blk} (h : H.get b = x) : Upd H b x H := ⟨rfl, h, fun _ _ => rfl⟩
theorem take_snoc {xs : List Int} {i : Nat} {x : Int} (h : xs[i]? = some x) : xs.take (i + 1) = xs.take i ++ [x] := by
  rw [List.take_add_one, h]; rfl
theorem drop_of_get {xs : List Int} {i : Nat} {x : Int} (h : xs[i]? = some x) : xs.drop i = x :: xs.drop (i + 1) := by
  obtain ⟨h1, h2⟩ := List.getElem?_eq_some_iff.1 h
  rw [List.drop_eq_getElem_cons h1, h2]
end Go.PI
/- OPEN REGIONS: what there was is there up to boundary c, and no load may come up behind it. -/
namespace Go.PI
def grC (H0 : Heap) (c : Nat) : List (List AV × Heap) → Nat → Prop
  | [], _ => True
  | x :: r, p => (match Nat.ble p c with
    | true => ∀ A, A < H0.n → x.2.get A = H0.get A
    | false => True) ∧ grC H0 c r (p + 1)
def noneFrom (C : Ctx) (ops : List Oper) (pre : List Nat) (i : Nat) : Nat → Nat → Bool
  | _, 0 => true
  | p, n + 1 => !(isBd C ops p && mayAt C ops pre i p ops 0) && noneFrom C ops pre i (p + 1) n
def lastOk2 (C : Ctx) (ops : List Oper) (pre : List Nat) (c m : Nat) : List Oper → Nat → Bool
  | [], _ => true
  | o :: os, i => (!isLoad o || (Nat.ble i c && noneFrom C ops pre i (c + 1) (m - c))) && lastOk2 C ops pre c m os (i + 1)
theorem none_of {C : Ctx} {ops : List Oper} {pre : List Nat} {i : Nat} : ∀ (n p : Nat), noneFrom C ops pre i p n = true → ∀ p', p ≤ p' → p' < p + n → (isBd C ops p' && mayAt C ops pre i p' ops 0) = false
  | 0, p, _, p', h1, h2 => by omega
  | n + 1, p, h, p', h1, h2 => by
    simp only [noneFrom, Bool.and_eq_true, Bool.not_eq_true'] at h
    by_cases hp : p' = p
    · subst hp; exact h.1
    · exact none_of n (p + 1) h.2 p' (by omega) (by omega)
theorem loadAts_of2 {C : Ctx} {ops : List Oper} {pre : List Nat} {i : Nat} {t : TypeId} {b off : Nat} {v : AV} {H0 : Heap} {c m : Nat} (hb : b < H0.n) (hl : loadE C t (.ptr b off) H0 = some v) (hs : v.same v = true)
    (hlast : ∀ p', c + 1 ≤ p' → p' ≤ m → (isBd C ops p' && mayAt C ops pre i p' ops 0) = false) :
    ∀ (tr : List (List AV × Heap)) (p : Nat), grC H0 c tr p → p + tr.length = m + 1 → loadAts C ops pre i t (.ptr b off) v tr p = true
  | [], _, _, _ => rfl
  | (T, H) :: r, p, hg, hp => by
    simp only [loadAts]
    simp at hp
    rw [loadAts_of2 hb hl hs hlast r (p + 1) hg.2 (by omega), Bool.and_true]
    cases hc : Nat.ble p c with
    | true =>
      have hg1 := hg.1
      rw [hc] at hg1
      rw [load_get (hg1 b hb), hl]
      simp [hs]
    | false =>
      have : ¬ p ≤ c := fun h => by rw [Nat.ble_eq_true_of_le h] at hc; cases hc
      rw [hlast p (by omega) (by omega)]
      simp
theorem loads_of2 {C : Ctx} {ops : List Oper} {pre : List Nat} {all : List (List AV × Heap)} {H0 : Heap} {c m : Nat} (hall : grC H0 c all 0) (hlen : all.length = m + 1) (hcm : c ≤ m) : ∀ (os : List Oper) (tr : List (List AV × Heap)) (i : Nat), ldsP C ops H0 os tr → grC H0 c tr i → lastOk2 C ops pre c m os i = true → loadsOk C ops pre all os tr i = true
  | [], tr, _, _, _, _ => by cases tr <;> rfl
  | o :: os, [], _, _, _, _ => rfl
  | o :: os, (T, H) :: tr, i, h, hg, hlast => by
    simp only [lastOk2, Bool.and_eq_true] at hlast
    simp only [loadsOk]
    rw [loads_of2 hall hlen hcm os tr (i + 1) h.2 hg.2 hlast.2, Bool.and_true]
    have h1 := h.1
    cases ho : o.op <;> simp only [ho] at h1 ⊢
    rename_i t x
    cases hw : Region.wanted o (ayielded ops T) with
    | false => simp
    | true =>
      simp only [hw] at h1
      obtain ⟨b, off, v, e1, e2, e3, e4⟩ := h1
      simp only [if_true, e1]
      have hl1 := hlast.1
      simp only [isLoad, ho, Bool.not_true, Bool.false_or, Bool.and_eq_true] at hl1
      have hg1 := hg.1
      rw [hl1.1] at hg1
      rw [load_get (hg1 b e2), e3]
      exact loadAts_of2 (m := m) e2 e3 e4 (fun p' q1 q2 => none_of _ _ hl1.2 p' q1 (by omega)) all 0 hall (by omega)
def growS2 (C : Ctx) (ops : List Oper) (c : Nat) : Bool := orderOk C ops (preList ops []) ops 0 && lastOk2 C ops (preList ops []) c ops.length ops 0 && noAlloc C ops && Nat.ble c ops.length
theorem draw_of2 {C : Ctx} {ops : List Oper} {tr : List (List AV × Heap)} (H0 : Heap) (c : Nat) (hs : growS2 C ops c = true) (hlen : tr.length = ops.length + 1) (hl : ldsP C ops H0 ops tr) (hg : grC H0 c tr 0) (hm : mnP tr) : drawOk C ops tr = true := by
  simp only [growS2, Bool.and_eq_true] at hs
  unfold drawOk
  simp only [hs.1.1.1, loads_of2 hg hlen (Nat.le_of_ble_eq_true hs.2) ops tr 0 hl hg hs.1.1.2, allocs_of ops tr 0 hs.1.2, mono_of hm, Bool.and_self]
def atsP (b : Nat) (H0 : Heap) : List Bool → List (List AV × Heap) → Prop
  | true :: ms, x :: r => x.2.get b = H0.get b ∧ atsP b H0 ms r
  | false :: ms, _ :: r => atsP b H0 ms r
  | _, _ => True
def ldsM (C : Ctx) (ops : List Oper) (all : List (List AV × Heap)) : List (List Bool) → List Oper → List (List AV × Heap) → Prop
  | m :: ms, o :: os, (T, H) :: tr => (match o.op with
    | .load t x => (match Region.wanted o (ayielded ops T) with
      | true => ∃ b off v, opd T x = some (.ptr b off) ∧ loadE C t (.ptr b off) H = some v ∧ v.same v = true ∧ atsP b H m all
      | false => True)
    | _ => True) ∧ ldsM C ops all ms os tr
  | _, _, _ => True
def rowOk (C : Ctx) (ops : List Oper) (pre : List Nat) (i : Nat) : List Bool → Nat → Bool
  | [], p => Nat.beq p (ops.length + 1)
  | b :: bs, p => (!(isBd C ops p && mayAt C ops pre i p ops 0) || b) && rowOk C ops pre i bs (p + 1)
def msOk (C : Ctx) (ops : List Oper) (pre : List Nat) : List (List Bool) → List Oper → Nat → Bool
  | b :: bs, o :: os, i => (!isLoad o || rowOk C ops pre i b 0) && msOk C ops pre bs os (i + 1)
  | [], [], _ => true
  | _, _, _ => false
theorem loadAts_of3 {C : Ctx} {ops : List Oper} {pre : List Nat} {i : Nat} {t : TypeId} {b off : Nat} {v : AV} {H0 : Heap} (hl : loadE C t (.ptr b off) H0 = some v) (hs : v.same v = true) :
    ∀ (ms : List Bool) (tr : List (List AV × Heap)) (p : Nat), rowOk C ops pre i ms p = true → p + tr.length = ops.length + 1 → atsP b H0 ms tr → loadAts C ops pre i t (.ptr b off) v tr p = true
  | _, [], _, _, _, _ => rfl
  | [], (T, H) :: r, p, hr, hp, _ => by
    simp only [rowOk] at hr
    have := Nat.eq_of_beq_eq_true hr
    simp at hp; omega
  | m :: ms, (T, H) :: r, p, hr, hp, ha => by
    simp only [rowOk, Bool.and_eq_true] at hr
    simp only [loadAts]
    simp at hp
    cases m with
    | true =>
      rw [loadAts_of3 hl hs ms r (p + 1) hr.2 (by omega) ha.2, Bool.and_true, load_get ha.1, hl]
      simp [hs]
    | false =>
      rw [loadAts_of3 hl hs ms r (p + 1) hr.2 (by omega) ha, Bool.and_true]
      have h1 := hr.1
      rw [Bool.or_false] at h1
      rw [h1, Bool.true_or]
theorem loads_of3 {C : Ctx} {ops : List Oper} {pre : List Nat} {all : List (List AV × Heap)} (hlen : all.length = ops.length + 1) : ∀ (ms : List (List Bool)) (os : List Oper) (tr : List (List AV × Heap)) (i : Nat), msOk C ops pre ms os i = true → ldsM C ops all ms os tr → loadsOk C ops pre all os tr i = true
  | _, [], tr, _, _, _ => by cases tr <;> rfl
  | _, o :: os, [], _, _, _ => rfl
  | [], o :: os, (T, H) :: tr, i, hm, _ => by simp [msOk] at hm
  | m :: ms, o :: os, (T, H) :: tr, i, hm, h => by
    simp only [msOk, Bool.and_eq_true] at hm
    simp only [loadsOk]
    rw [loads_of3 hlen ms os tr (i + 1) hm.2 h.2, Bool.and_true]
    have h1 := h.1
    cases ho : o.op <;> simp only [ho] at h1 ⊢
    rename_i t x
    cases hw : Region.wanted o (ayielded ops T) with
    | false => simp
    | true =>
      simp only [hw] at h1
      obtain ⟨b, off, v, e1, e2, e3, e4⟩ := h1
      simp only [if_true, e1, e2]
      have hl1 := hm.1
      simp only [isLoad, ho, Bool.not_true, Bool.false_or] at hl1
      exact loadAts_of3 e2 e3 m all 0 hl1 (by omega) e4
end Go.PI
/- OPEN REGIONS WITH ALLOCATIONS behind which no operation of effect may come up ahead of them. -/
namespace Go.PI
def alBd (C : Ctx) (ops : List Oper) (pre : List Nat) (i : Nat) : Nat → Nat → Bool
  | _, 0 => true
  | p, n + 1 => !(isBd C ops p && decide (i < p) && mayAt C ops pre i p ops 0) && alBd C ops pre i (p + 1) n
def alNone (C : Ctx) (ops : List Oper) (pre : List Nat) : List Oper → Nat → Bool
  | [], _ => true
  | o :: os, i => (match kindOf C o.op with | .alloc => alBd C ops pre i 0 (ops.length + 1) | _ => true) && alNone C ops pre os (i + 1)
def alsP (C : Ctx) (ops : List Oper) : List Oper → List (List AV × Heap) → Prop
  | o :: os, (T, _) :: tr => (match kindOf C o.op with
    | .alloc => (match Region.wanted o (ayielded ops T) with
      | true => ∃ ty cs f, allocE C (opd T) o.op = some (.cells true ty cs, f)
      | false => True)
    | _ => True) ∧ alsP C ops os tr
  | _, _ => True
theorem allocAts_of4 {C : Ctx} {ops : List Oper} {pre : List Nat} {i A : Nat} {ty : TypeId} {cs : List AV} : ∀ (tr : List (List AV × Heap)) (p n : Nat), alBd C ops pre i p n = true → tr.length ≤ n → allocAts C ops pre i A ty cs tr p = true
  | [], _, _, _, _ => rfl
  | (T, H) :: r, p, 0, _, hl => by simp at hl
  | (T, H) :: r, p, n + 1, h, hl => by
    simp only [alBd, Bool.and_eq_true] at h
    simp only [allocAts]
    rw [allocAts_of4 r (p + 1) n h.2 (by simpa using hl), Bool.and_true, h.1, Bool.true_or]
theorem allocs_of4 {C : Ctx} {ops : List Oper} {pre : List Nat} {all : List (List AV × Heap)} (hlen : all.length = ops.length + 1) : ∀ (os : List Oper) (tr : List (List AV × Heap)) (i : Nat), alNone C ops pre os i = true → alsP C ops os tr → allocsOk C ops pre all os tr i = true
  | [], tr, _, _, _ => by cases tr <;> rfl
  | o :: os, [], _, _, _ => rfl
  | o :: os, (T, H) :: tr, i, h, ha => by
    simp only [alNone, Bool.and_eq_true] at h
    simp only [allocsOk]
    rw [allocs_of4 hlen os tr (i + 1) h.2 ha.2, Bool.and_true]
    have h1 := h.1
    have h2 := ha.1
    cases hk : kindOf C o.op <;> simp only [hk] at h1 h2 ⊢
    cases hw : Region.wanted o (ayielded ops T) with
    | false => simp
    | true =>
      simp only [hw] at h2
      obtain ⟨ty, cs, f, he⟩ := h2
      simp only [if_true, he]
      exact allocAts_of4 all 0 _ h1 (by omega)
def growS4 (C : Ctx) (ops : List Oper) (ms : List (List Bool)) : Bool := orderOk C ops (preList ops []) ops 0 && msOk C ops (preList ops []) ms ops 0 && alNone C ops (preList ops []) ops 0
theorem draw_of4 {C : Ctx} {ops : List Oper} {tr : List (List AV × Heap)} (ms : List (List Bool)) (hs : growS4 C ops ms = true) (hlen : tr.length = ops.length + 1) (hl : ldsM C ops tr ms ops tr) (ha : alsP C ops ops tr) (hm : mnP tr) : drawOk C ops tr = true := by
  simp only [growS4, Bool.and_eq_true] at hs
  unfold drawOk
  simp only [hs.1.1, loads_of3 hlen ms ops tr 0 hs.1.2 hl, allocs_of4 hlen ops tr 0 hs.2 ha, mono_of hm, Bool.and_self]
end Go.PI
