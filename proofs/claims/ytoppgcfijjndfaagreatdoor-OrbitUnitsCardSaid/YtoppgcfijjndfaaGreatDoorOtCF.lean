/- Own work of the verifier: OrUn OrUp OrUw. -/
import Derived.Test.YtoppgcfijjndfaaGreatDoorOtBA
import Derived.Test.YtoppgcfijjndfaaGreatDoorOtCE
set_option linter.all false
set_option exponentiation.threshold 3000
set_option linter.deprecated false
/- THE WORD OF A UNIT: what it is, and that its matrix is the unit. -/
namespace Go.PI
set_option maxRecDepth 10000
set_option maxHeartbeats 4000000
structure Un (m : Mt) : Prop where
  sm : m.Sm
  det : m.A * m.D - m.B * m.C = 1
/-- p divided by q, rounded down -/
def flo (p q : Int) : Int := if 0 < q then p / q else (-p) / (-q)
theorem flo_rem {p q : Int} (h : q ≠ 0) : (0 < q ∧ 0 ≤ p - flo p q * q ∧ p - flo p q * q < q) ∨ (q < 0 ∧ q < p - flo p q * q ∧ p - flo p q * q ≤ 0) := by
  unfold flo
  by_cases hq : 0 < q
  · rw [if_pos hq]
    have h1 := Int.mul_ediv_add_emod p q
    have h2 := Int.emod_nonneg p h
    have h3 := Int.emod_lt_of_pos p hq
    have h4 := Int.mul_comm q (p / q)
    exact .inl ⟨hq, by omega, by omega⟩
  · rw [if_neg hq]
    have hq2 : 0 < -q := by omega
    have h1 := Int.mul_ediv_add_emod (-p) (-q)
    have h2 := Int.emod_nonneg (-p) (b := -q) (by omega)
    have h3 := Int.emod_lt_of_pos (-p) hq2
    have h4 : -q * (-p / -q) = -((-p / -q) * q) := by rw [Int.neg_mul, Int.mul_comm]
    exact .inr ⟨by omega, by omega, by omega⟩
def Mt.st (m : Mt) : Mt := ⟨m.C, m.D, -m.A + flo m.A m.C * m.C, -m.B + flo m.A m.C * m.D⟩
theorem abs_mul {a b : Int} : (a * b).natAbs = a.natAbs * b.natAbs := Int.natAbs_mul a b
/-- rounding down makes nothing greater -/
theorem flo_le {p q : Int} (h : q ≠ 0) : (flo p q).natAbs ≤ p.natAbs := by
  have hr := flo_rem (p := p) h
  have hm : (flo p q * q).natAbs = (flo p q).natAbs * q.natAbs := abs_mul
  have hq : 1 ≤ q.natAbs := by omega
  have h1 : (flo p q).natAbs * 1 ≤ (flo p q).natAbs * q.natAbs := Nat.mul_le_mul_left _ hq
  by_cases hb : (flo p q * q).natAbs ≤ p.natAbs
  · omega
  · have hk : (flo p q).natAbs ≠ 0 := fun e => by rw [e, Nat.zero_mul] at hm; omega
    have h2 : ((flo p q).natAbs - 1) * 1 ≤ ((flo p q).natAbs - 1) * q.natAbs := Nat.mul_le_mul_left _ hq
    have h3 : (flo p q).natAbs * q.natAbs = ((flo p q).natAbs - 1) * q.natAbs + q.natAbs := by
      obtain ⟨z, hz⟩ : ∃ z, (flo p q).natAbs = z + 1 := ⟨(flo p q).natAbs - 1, by omega⟩
      rw [hz, Nat.add_sub_cancel, Nat.succ_mul]
    omega
theorem st_un {m : Mt} (h : Un m) (hC : m.C ≠ 0) : Un m.st ∧ m.st.C.natAbs < m.C.natAbs := by
  have hr := flo_rem (p := m.A) hC
  have hs := h.sm
  obtain ⟨ha, hb, hc, hd⟩ := hs
  have hdet := h.det
  have hC' : m.st.C = -m.A + flo m.A m.C * m.C := rfl
  have hlt : m.st.C.natAbs < m.C.natAbs := by rw [hC']; omega
  have hdet2 : m.st.A * m.st.D - m.st.B * m.st.C = 1 := by
    show m.C * (-m.B + flo m.A m.C * m.D) - m.D * (-m.A + flo m.A m.C * m.C) = 1
    rw [← hdet]
    grind
  have e1 : m.C * m.st.D = 1 + m.D * m.st.C := by
    have : m.st.A * m.st.D - m.st.B * m.st.C = m.C * m.st.D - m.D * m.st.C := rfl
    omega
  have n1 : m.C.natAbs * m.st.D.natAbs = (m.C * m.st.D).natAbs := abs_mul.symm
  have n2 : m.D.natAbs * m.st.C.natAbs = (m.D * m.st.C).natAbs := abs_mul.symm
  have hD : m.st.D.natAbs ≤ m.D.natAbs ∨ m.st.D.natAbs ≤ 1 := by
    refine Classical.byContradiction fun hn => ?_
    have g1 : m.D.natAbs + 1 ≤ m.st.D.natAbs ∧ 2 ≤ m.st.D.natAbs := by omega
    have g2 : m.C.natAbs * (m.D.natAbs + 1) ≤ m.C.natAbs * m.st.D.natAbs := Nat.mul_le_mul_left _ g1.1
    have g3 : m.D.natAbs * m.st.C.natAbs ≤ m.D.natAbs * (m.C.natAbs - 1) := Nat.mul_le_mul_left _ (by omega)
    have g4 : m.C.natAbs * (m.D.natAbs + 1) = m.D.natAbs * (m.C.natAbs - 1) + m.D.natAbs + m.C.natAbs := by
      obtain ⟨z, hz⟩ : ∃ z, m.C.natAbs = z + 1 := ⟨m.C.natAbs - 1, by omega⟩
      rw [hz, Nat.add_sub_cancel]
      grind
    have g5 : m.C.natAbs * 2 ≤ m.C.natAbs * m.st.D.natAbs := Nat.mul_le_mul_left _ g1.2
    by_cases hd0 : m.D.natAbs = 0
    · rw [hd0, Nat.zero_mul] at n2
      omega
    · omega
  refine ⟨⟨⟨hc, hd, ?_, ?_⟩, hdet2⟩, hlt⟩
  · show In6 m.st.C
    omega
  · show In6 m.st.D
    omega
/-- k letters T, or -k letters t -/
def tk (k : Int) : List Nat := List.replicate k.natAbs (if k < 0 then 116 else 84)
/-- the word of a unit; n is at least the size of C -/
def wrd : Nat → Mt → List Nat
  | 0, m => if m.A = -1 then [83, 83] ++ tk (-m.B) else tk m.B
  | n + 1, m => if m.C = 0 then (if m.A = -1 then [83, 83] ++ tk (-m.B) else tk m.B) else tk (flo m.A m.C) ++ 83 :: wrd n m.st
def wd (m : Mt) : List Nat := wrd m.C.natAbs m
theorem wrd_zero {n : Nat} {m : Mt} (h : m.C = 0) : wrd n m = if m.A = -1 then [83, 83] ++ tk (-m.B) else tk m.B := by
  cases n with
  | zero => rfl
  | succ n => show (if _ then _ else _) = _; rw [if_pos h]
theorem wrd_any : ∀ {n k : Nat} {m : Mt}, Un m → m.C.natAbs ≤ n → m.C.natAbs ≤ k → wrd n m = wrd k m
  | 0, k, m, _, hn, _ => by
    have : m.C = 0 := by omega
    rw [wrd_zero this, wrd_zero this]
  | n + 1, 0, m, _, _, hk => by
    have : m.C = 0 := by omega
    rw [wrd_zero this, wrd_zero this]
  | n + 1, k + 1, m, hu, hn, hk => by
    by_cases h : m.C = 0
    · rw [wrd_zero h, wrd_zero h]
    · obtain ⟨hu2, hlt⟩ := st_un hu h
      show (if _ then _ else _) = (if _ then _ else _)
      rw [if_neg h, if_neg h, wrd_any hu2 (n := n) (k := k) (by omega) (by omega)]
theorem wd_zero {m : Mt} (h : m.C = 0) : wd m = if m.A = -1 then [83, 83] ++ tk (-m.B) else tk m.B := wrd_zero h
theorem wd_step {m : Mt} (hu : Un m) (h : m.C ≠ 0) : wd m = tk (flo m.A m.C) ++ 83 :: wd m.st := by
  obtain ⟨hu2, hlt⟩ := st_un hu h
  unfold wd
  obtain ⟨z, hz⟩ : ∃ z, m.C.natAbs = z + 1 := ⟨m.C.natAbs - 1, by omega⟩
  rw [hz]
  show (if _ then _ else _) = _
  rw [if_neg h, wrd_any hu2 (n := z) (k := m.st.C.natAbs) (by omega) (Nat.le_refl _)]
theorem un_zero {m : Mt} (hu : Un m) (h : m.C = 0) : (m.A = 1 ∧ m.D = 1) ∨ (m.A = -1 ∧ m.D = -1) := by
  have := hu.det
  rw [h, Int.mul_zero, Int.sub_zero] at this
  have h2 : m.A.natAbs * m.D.natAbs = 1 := by rw [← abs_mul, this]; rfl
  have h3 : m.A.natAbs = 1 := Nat.eq_one_of_mul_eq_one_right h2
  have h4 : m.A = 1 ∨ m.A = -1 := by omega
  rcases h4 with e | e
  · rw [e] at this; exact .inl ⟨e, by omega⟩
  · rw [e] at this; exact .inr ⟨e, by omega⟩
theorem tk_let {k : Int} : ∀ c ∈ tk k, IsLet c := fun c hc => by
  have := (List.mem_replicate.1 hc).2
  unfold IsLet
  split at this <;> omega
theorem wrd_let : ∀ {n : Nat} {m : Mt}, ∀ c ∈ wrd n m, IsLet c := by
  have key : ∀ (m : Mt), ∀ c ∈ (if m.A = -1 then [83, 83] ++ tk (-m.B) else tk m.B), IsLet c := fun m c hc => by
    split at hc
    · rcases List.mem_append.1 hc with hc | hc
      · unfold IsLet; simp at hc; omega
      · exact tk_let c hc
    · exact tk_let c hc
  intro n
  induction n with
  | zero => intro m c hc; exact key m c hc
  | succ n ih =>
    intro m c hc
    change c ∈ (if _ then _ else _) at hc
    split at hc
    · exact key m c hc
    · rcases List.mem_append.1 hc with hc | hc
      · exact tk_let c hc
      · rcases List.mem_cons.1 hc with rfl | hc
        · exact .inl rfl
        · exact ih c hc
end Go.PI
/- THE MATRIX OF THE WORD OF A UNIT is the unit. -/
namespace Go.PI
set_option maxRecDepth 10000
set_option maxHeartbeats 4000000
def Mt.tp (P : Mt) (k : Int) : Mt := ⟨P.A, P.B + k * P.A, P.C, P.D + k * P.C⟩
theorem Mt.ext' {P Q : Mt} (a : P.A = Q.A) (b : P.B = Q.B) (c : P.C = Q.C) (d : P.D = Q.D) : P = Q := by
  cases P; cases Q; simp_all
theorem convex {q d : Int} {n : Nat} (h1 : In6 q) (h2 : In6 (q + d * (n + 1 : Nat))) : In6 (q + d) := by
  have e : d * ((n + 1 : Nat) : Int) = d * n + d := by rw [Int.natCast_add, Int.mul_add, Int.natCast_one, Int.mul_one]
  rw [e] at h2
  rcases Int.le_total 0 d with h | h
  · have : 0 ≤ d * (n : Int) := Int.mul_nonneg h (by omega)
    omega
  · have : d * (n : Int) ≤ 0 := Int.mul_nonpos_of_nonpos_of_nonneg h (by omega)
    omega
theorem run_let {c : Nat} {z : Int} (hc : Mt.of c = ⟨1, z, 0, 1⟩) : ∀ (n : Nat) {P : Mt} {w : List Nat}, P.Sm → In6 (P.B + P.A * z * n) → In6 (P.D + P.C * z * n) →
    matF P (List.replicate n c ++ w) = matF ⟨P.A, P.B + P.A * z * n, P.C, P.D + P.C * z * n⟩ w
  | 0, P, w, h, _, _ => by simp
  | n + 1, P, w, h, h1, h2 => by
    have hm : P.mul (.of c) = ⟨P.A, P.B + P.A * z, P.C, P.D + P.C * z⟩ := by
      rw [hc]
      refine Mt.ext' ?_ ?_ ?_ ?_
      · show P.A * 1 + P.B * 0 = P.A; omega
      · show P.A * z + P.B * 1 = P.B + P.A * z; omega
      · show P.C * 1 + P.D * 0 = P.C; omega
      · show P.C * z + P.D * 1 = P.D + P.C * z; omega
    have hs : (P.mul (.of c)).Sm := by
      rw [hm]
      exact ⟨h.a, convex h.b h1, h.c, convex h.d h2⟩
    rw [List.replicate_succ, List.cons_append, matF_yes hs, hm]
    have e1 : P.A * z * ((n + 1 : Nat) : Int) = P.A * z + P.A * z * n := by rw [Int.natCast_add, Int.mul_add, Int.natCast_one, Int.mul_one, Int.add_comm]
    have e2 : P.C * z * ((n + 1 : Nat) : Int) = P.C * z + P.C * z * n := by rw [Int.natCast_add, Int.mul_add, Int.natCast_one, Int.mul_one, Int.add_comm]
    have ih := run_let hc n (P := ⟨P.A, P.B + P.A * z, P.C, P.D + P.C * z⟩) (w := w) (by rw [hm] at hs; exact hs) (by show In6 (P.B + P.A * z + P.A * z * n); rw [Int.add_assoc, ← e1]; exact h1) (by show In6 (P.D + P.C * z + P.C * z * n); rw [Int.add_assoc, ← e2]; exact h2)
    rw [ih]
    congr 1
    refine Mt.ext' rfl ?_ rfl ?_
    · show P.B + P.A * z + P.A * z * n = P.B + P.A * z * ((n + 1 : Nat) : Int)
      rw [Int.add_assoc, ← e1]
    · show P.D + P.C * z + P.C * z * n = P.D + P.C * z * ((n + 1 : Nat) : Int)
      rw [Int.add_assoc, ← e2]
theorem tk_run {P : Mt} {k : Int} {w : List Nat} (h : P.Sm) (h2 : (P.tp k).Sm) : matF P (tk k ++ w) = matF (P.tp k) w := by
  unfold tk
  by_cases hk : k < 0
  · rw [if_pos hk]
    have e : ∀ x : Int, x * -1 * (k.natAbs : Int) = k * x := fun x => by
      rw [show (k.natAbs : Int) = -k by omega]; grind
    have := run_let (c := 116) (z := -1) rfl k.natAbs (P := P) (w := w) h (by rw [e]; exact h2.b) (by rw [e]; exact h2.d)
    rw [this, e, e]
    rfl
  · rw [if_neg hk]
    have e : ∀ x : Int, x * 1 * (k.natAbs : Int) = k * x := fun x => by
      rw [show (k.natAbs : Int) = k by omega]; grind
    have := run_let (c := 84) (z := 1) rfl k.natAbs (P := P) (w := w) h (by rw [e]; exact h2.b) (by rw [e]; exact h2.d)
    rw [this, e, e]
    rfl
theorem mul_S {P : Mt} : P.mul (.of 83) = ⟨P.B, -P.A, P.D, -P.C⟩ := by
  refine Mt.ext' ?_ ?_ ?_ ?_
  · show P.A * 0 + P.B * 1 = P.B; omega
  · show P.A * -1 + P.B * 0 = -P.A; omega
  · show P.C * 0 + P.D * 1 = P.D; omega
  · show P.C * -1 + P.D * 0 = -P.C; omega
theorem sm_S {P : Mt} (h : P.Sm) : (P.mul (.of 83)).Sm := by
  rw [mul_S]
  have := h.a; have := h.b; have := h.c; have := h.d
  exact ⟨h.b, by show In6 (-P.A); omega, h.d, by show In6 (-P.C); omega⟩
/-- the end of a word -/
theorem fin0 {P m M : Mt} (h : P.Sm) (hM : P.mul m = M) (hs : M.Sm) (hu : Un m) (h0 : m.C = 0) : matF P (wd m) = some M := by
  rw [wd_zero h0]
  have hB : M.B = P.A * m.B + P.B * m.D := by rw [← hM]; rfl
  have hD : M.D = P.C * m.B + P.D * m.D := by rw [← hM]; rfl
  have hA : M.A = P.A * m.A + P.B * m.C := by rw [← hM]; rfl
  have hCc : M.C = P.C * m.A + P.D * m.C := by rw [← hM]; rfl
  have a := h.a; have b := h.b; have c := h.c; have d := h.d
  have a' := hs.a; have b' := hs.b; have c' := hs.c; have d' := hs.d
  rcases un_zero hu h0 with ⟨ha, hd⟩ | ⟨ha, hd⟩
  · rw [if_neg (by rw [ha]; decide)]
    have e : P.tp m.B = M := Mt.ext' (by show P.A = _; rw [hA, ha, h0]; omega) (by show P.B + m.B * P.A = _; rw [hB, hd, Int.mul_comm]; omega) (by show P.C = _; rw [hCc, ha, h0]; omega) (by show P.D + m.B * P.C = _; rw [hD, hd, Int.mul_comm]; omega)
    have := tk_run (k := m.B) (w := []) h (by rw [e]; exact hs)
    rw [List.append_nil] at this
    rw [this, e]
    rfl
  · rw [if_pos ha]
    have s1 := sm_S h
    have s2 := sm_S s1
    show matF P (83 :: 83 :: tk (-m.B)) = _
    rw [matF_yes s1, matF_yes s2]
    rw [mul_S] at s2
    have e0 : (P.mul (.of 83)).mul (.of 83) = ⟨-P.A, -P.B, -P.C, -P.D⟩ := by rw [mul_S, mul_S]
    have s3 : Mt.Sm ⟨-P.A, -P.B, -P.C, -P.D⟩ := ⟨by show In6 (-P.A); omega, by show In6 (-P.B); omega, by show In6 (-P.C); omega, by show In6 (-P.D); omega⟩
    rw [e0]
    have e : (Mt.mk (-P.A) (-P.B) (-P.C) (-P.D)).tp (-m.B) = M := Mt.ext' (by show -P.A = _; rw [hA, ha, h0]; omega) (by show -P.B + -m.B * -P.A = _; rw [hB, hd, Int.neg_mul_neg, Int.mul_comm]; omega) (by show -P.C = _; rw [hCc, ha, h0]; omega) (by show -P.D + -m.B * -P.C = _; rw [hD, hd, Int.neg_mul_neg, Int.mul_comm]; omega)
    have := tk_run (k := -m.B) (w := []) s3 (by rw [e]; exact hs)
    rw [List.append_nil] at this
    rw [this, e]
    rfl
/-- A and C are of opposite signs, and C is less -/
def Opp (A C : Int) : Prop := C.natAbs < A.natAbs ∧ ((0 < A ∧ C ≤ 0) ∨ (A < 0 ∧ 0 ≤ C))
theorem opp_st {m : Mt} (hC : m.C ≠ 0) : Opp m.st.A m.st.C := by
  have hr := flo_rem (p := m.A) hC
  have hC' : m.st.C = -m.A + flo m.A m.C * m.C := rfl
  have hA' : m.st.A = m.C := rfl
  unfold Opp
  rw [hC', hA']
  omega
theorem flo_two {A C : Int} (h : Opp A C) (hC : C ≠ 0) : flo A C ≤ -2 := by
  have hr := flo_rem (p := A) hC
  obtain ⟨h1, h2⟩ := h
  refine Classical.byContradiction fun hk => ?_
  have hk : -1 ≤ flo A C := by omega
  rcases hr with ⟨q1, q2, q3⟩ | ⟨q1, q2, q3⟩
  · have : -1 * C ≤ flo A C * C := Int.mul_le_mul_of_nonneg_right hk (by omega)
    omega
  · have : flo A C * C ≤ -1 * C := Int.mul_le_mul_of_nonpos_right hk (by omega)
    omega
/-- the bound: what comes out is no less than what there is -/
theorem lin_ge {p q A C : Int} (h1 : q.natAbs ≤ p.natAbs) (h2 : C.natAbs < A.natAbs) : p.natAbs ≤ (p * A + q * C).natAbs := by
  have a1 : (p * A).natAbs = p.natAbs * A.natAbs := abs_mul
  have a2 : (q * C).natAbs = q.natAbs * C.natAbs := abs_mul
  have a3 : p.natAbs * (C.natAbs + 1) ≤ p.natAbs * A.natAbs := Nat.mul_le_mul_left _ h2
  have a4 : q.natAbs * C.natAbs ≤ p.natAbs * C.natAbs := Nat.mul_le_mul_right _ h1
  rw [Nat.mul_succ] at a3
  omega
theorem grow_ge {p q k : Int} (hk : k ≤ -2) (h : q.natAbs ≤ p.natAbs ∨ p = 0) : p.natAbs ≤ (q + k * p).natAbs := by
  have a1 : (k * p).natAbs = k.natAbs * p.natAbs := abs_mul
  have a2 : 2 * p.natAbs ≤ k.natAbs * p.natAbs := Nat.mul_le_mul_right _ (by omega)
  omega
theorem wd_two : ∀ (n : Nat) {P m M : Mt}, m.C.natAbs ≤ n → P.mul m = M → M.Sm → P.Sm → Un m → Opp m.A m.C → (P.B.natAbs ≤ P.A.natAbs ∨ P.A = 0) → (P.D.natAbs ≤ P.C.natAbs) → matF P (wd m) = some M
  | n, P, m, M, hn, hM, hs, h, hu, ho, h1, h2 => by
    by_cases h0 : m.C = 0
    · exact fin0 h hM hs hu h0
    obtain ⟨hu2, hlt⟩ := st_un hu h0
    have hk := flo_two ho h0
    have ho2 := opp_st h0
    obtain ⟨k, hkk⟩ : ∃ k, k = flo m.A m.C := ⟨_, rfl⟩
    have g1 : P.A.natAbs ≤ (P.B + k * P.A).natAbs := grow_ge (by omega) h1
    have g2 : P.C.natAbs ≤ (P.D + k * P.C).natAbs := grow_ge (by omega) (.inl h2)
    have hP : ((P.tp k).mul (.of 83)) = ⟨P.B + k * P.A, -P.A, P.D + k * P.C, -P.C⟩ := mul_S
    have hM2 : ((P.tp k).mul (.of 83)).mul m.st = M := by
      rw [← hM, hP, hkk]
      unfold Mt.mul Mt.st
      refine Mt.ext' ?_ ?_ ?_ ?_ <;> simp only <;> grind
    have hMA : M.A = (P.B + k * P.A) * m.st.A + -P.A * m.st.C := by rw [← hM2, hP]; rfl
    have hMC : M.C = (P.D + k * P.C) * m.st.A + -P.C * m.st.C := by rw [← hM2, hP]; rfl
    have b1 : (P.B + k * P.A).natAbs ≤ M.A.natAbs := by rw [hMA]; exact lin_ge (by omega) ho2.1
    have b2 : (P.D + k * P.C).natAbs ≤ M.C.natAbs := by rw [hMC]; exact lin_ge (by omega) ho2.1
    have a := h.a; have c := h.c; have a' := hs.a; have c' := hs.c
    have sT : (P.tp k).Sm := ⟨a, by show In6 (P.B + k * P.A); omega, c, by show In6 (P.D + k * P.C); omega⟩
    have sS := sm_S sT
    rw [wd_step hu h0, ← hkk, tk_run h sT, matF_yes sS]
    obtain ⟨z, hz⟩ : ∃ z, n = z + 1 := ⟨n - 1, by omega⟩
    subst hz
    refine wd_two z (by omega) hM2 hs sS hu2 ho2 ?_ ?_
    · rw [hP]
      exact .inl (by show (-P.A).natAbs ≤ (P.B + k * P.A).natAbs; omega)
    · rw [hP]
      show (-P.C).natAbs ≤ (P.D + k * P.C).natAbs
      omega
/-- THE MATRIX OF THE WORD IS THE UNIT -/
theorem wd_matrix {m : Mt} (hu : Un m) : matF .one (wd m) = some m := by
  have hone : Mt.one.mul m = m := Mt.ext' (by show 1 * m.A + 0 * m.C = _; omega) (by show 1 * m.B + 0 * m.D = _; omega) (by show 0 * m.A + 1 * m.C = _; omega) (by show 0 * m.B + 1 * m.D = _; omega)
  by_cases h0 : m.C = 0
  · exact fin0 sm_one hone hu.sm hu h0
  obtain ⟨hu2, hlt⟩ := st_un hu h0
  have ho2 := opp_st h0
  have hk := flo_le (p := m.A) h0
  obtain ⟨k, hkk⟩ : ∃ k, k = flo m.A m.C := ⟨_, rfl⟩
  rw [← hkk] at hk
  have a := hu.sm.a
  have hP : ((Mt.one.tp k).mul (.of 83)) = ⟨k, -1, 1, 0⟩ := by
    rw [mul_S]
    refine Mt.ext' ?_ rfl ?_ rfl
    · show 0 + k * 1 = k; omega
    · show 1 + k * 0 = 1; omega
  have hM2 : ((Mt.one.tp k).mul (.of 83)).mul m.st = m := by
    rw [hP, hkk]
    unfold Mt.mul Mt.st
    refine Mt.ext' ?_ ?_ ?_ ?_ <;> simp only <;> omega
  have sT : (Mt.one.tp k).Sm := ⟨by show In6 1; decide, by show In6 (0 + k * 1); omega, by show In6 0; decide, by show In6 (1 + k * 0); omega⟩
  have sS := sm_S sT
  rw [wd_step hu h0, ← hkk, tk_run sm_one sT, matF_yes sS]
  refine wd_two m.st.C.natAbs (Nat.le_refl _) hM2 hu.sm sS hu2 ho2 ?_ ?_
  · rw [hP]
    by_cases hk0 : k = 0
    · exact .inr hk0
    · exact .inl (by show (-1 : Int).natAbs ≤ k.natAbs; omega)
  · rw [hP]
    show (0 : Int).natAbs ≤ (1 : Int).natAbs
    decide
end Go.PI
/- UNITS AND THEIR WORDS: of the program and of the reference. -/
open Go.Proofs
namespace Go.PI
open IM
set_option maxRecDepth 10000
set_option maxHeartbeats 4000000
variable (S : FuncId → Option (List AV → Heap → Option (AV × Heap)))
theorem fn123 : ctx.fn 123 = some c123 := by kernel_rfl
theorem ofloor_ct (hS : OldO S) {p q : Int} (hq : q ≠ 0) (hp : p.natAbs ≤ 10000000) (hq2 : q.natAbs ≤ 10000000) : Ct (ctx.plus S) 123 [pn p, pn q] 0 fun v => v = pn (floorZ p q) := by
  obtain ⟨t1, t2, t3, t4, t5⟩ := tqm (p := p) hq
  have hc : q * p.tdiv q = p.tdiv q * q := Int.mul_comm _ _
  have h0 : FloorIs p q (p.tdiv q) → pn (p.tdiv q) = pn (floorZ p q) := fun h => by rw [floorZ_is hq h]
  have h1 : FloorIs p q (p.tdiv q - 1) → pn (p.tdiv q - 1) = pn (floorZ p q) := fun h => by rw [floorZ_is hq h]
  have h0' : (0 < q → 0 ≤ p.tmod q) → (q < 0 → p.tmod q ≤ 0) → pn (p.tdiv q) = pn (floorZ p q) := fun a b => h0 ⟨p.tmod q, by omega, fun c => ⟨a c, by omega⟩, fun c => ⟨by omega, b c⟩⟩
  have h1' : (0 < q → p.tmod q < 0) → (q < 0 → 0 < p.tmod q) → pn (p.tdiv q - 1) = pn (floorZ p q) := fun a b => h1 ⟨p.tmod q + q, by rw [Int.sub_mul]; omega, fun c => by have := a c; omega, fun c => by have := b c; omega⟩
  have H0 : Hid ((0 < q → 0 ≤ p.tmod q) → (q < 0 → p.tmod q ≤ 0) → pn (p.tdiv q) = pn (floorZ p q)) := ⟨h0'⟩
  have H1 : Hid ((0 < q → p.tmod q < 0) → (q < 0 → 0 < p.tmod q) → pn (p.tdiv q - 1) = pn (floorZ p q)) := ⟨h1'⟩
  clear h0 h1 h0' h1'
  refine ct_of (hS 123 (by decide)) fn123 ?_
  refine ⟨⟨hq, by omega, by omega⟩, ?_⟩
  refine ⟨hq, ?_⟩
  refine ⟨fun hr => ?_, fun hr => ?_⟩
  · refine ⟨fun a => ?_, fun a => ?_⟩
    · refine ⟨fun b => ?_, fun b => ?_⟩
      · exact endq rfl (H0.h (fun c => by omega) (fun c => by omega))
      · refine ⟨⟨by omega, by omega⟩, ?_⟩
        exact endq rfl (H1.h (fun c => by omega) (fun c => by omega))
    · refine ⟨fun b => ?_, fun b => ?_⟩
      · refine ⟨⟨by omega, by omega⟩, ?_⟩
        exact endq rfl (H1.h (fun c => by omega) (fun c => by omega))
      · exact endq rfl (H0.h (fun c => by omega) (fun c => by omega))
  · exact endq rfl (H0.h (fun c => by omega) (fun c => by omega))
theorem fn126 : ctx.fn 126 = some c126 := by kernel_rfl
theorem mod_ct (hS : OldO S) {p q : Int} (hq : 0 < q) (hp : p.natAbs ≤ 10000000) (hq2 : q.natAbs ≤ 10000000) : Ct (ctx.plus S) 126 [pn p, pn q] 0 fun v => v = pn (p - floorZ p q * q) := by
  obtain ⟨t1, t2, t3, t4, t5⟩ := tqm (p := p) (q := q) (by omega)
  have hc : q * p.tdiv q = p.tdiv q * q := Int.mul_comm _ _
  have h0 : FloorIs p q (p.tdiv q) → pn (p.tmod q) = pn (p - floorZ p q * q) := fun h => by rw [floorZ_is (by omega) h]; congr 1; omega
  have h1 : FloorIs p q (p.tdiv q - 1) → pn (p.tmod q + q) = pn (p - floorZ p q * q) := fun h => by rw [floorZ_is (by omega) h]; congr 1; rw [Int.sub_mul]; omega
  refine ct_of (hS 126 (by decide)) fn126 ?_
  refine ⟨by omega, ?_⟩
  refine ⟨fun a => ?_, fun a => ?_⟩
  · refine ⟨⟨by omega, by omega⟩, ?_⟩
    exact endq rfl (h1 ⟨p.tmod q + q, by rw [Int.sub_mul]; omega, fun c => by omega, fun c => by omega⟩)
  · exact endq rfl (h0 ⟨p.tmod q, by omega, fun c => by omega, fun c => by omega⟩)
theorem fn78 : ctx.fn 78 = some c78 := by kernel_rfl
theorem floor_size7 {p q k : Int} (hq : q ≠ 0) (h : FloorIs p q k) (hp : p.natAbs ≤ 10000000) (hq2 : q.natAbs ≤ 10000000) : k.natAbs ≤ 20000000 ∧ (k * q).natAbs ≤ 20000000 ∧ (p - k * q).natAbs < q.natAbs := by
  obtain ⟨m, e, h1, h2⟩ := h
  have hm : (p - k * q).natAbs < q.natAbs := by omega
  have h3 : (k * q).natAbs = k.natAbs * q.natAbs := abs_mul
  have h4 : k.natAbs * 1 ≤ k.natAbs * q.natAbs := Nat.mul_le_mul_left _ (by omega)
  exact ⟨by omega, by omega, hm⟩
theorem rfloor_ct (hS : OldO S) {p q : Int} (hq : 0 < q) (hp : p.natAbs ≤ 10000000) (hq2 : q.natAbs ≤ 10000000) (hF : ∃ k, FloorIs p q k) : Ct (ctx.plus S) 78 [pn p, pn q] 0 fun v => v = pn (floorZ p q) := by
  obtain ⟨k, hk⟩ := hF
  have hz := floorZ_is (by omega) hk
  obtain ⟨s1, s2, s3⟩ := floor_size7 (by omega) hk hp hq2
  refine ct_of (hS 78 (by decide)) fn78 ?_
  refine callq rfl (mod_ct S hS hq hp hq2) (by omega) ?_
  rintro _ rfl
  rw [hz]
  have e : p - (p - k * q) = k * q := by omega
  refine ⟨⟨by omega, by omega⟩, ?_⟩
  rw [e]
  refine ⟨⟨by omega, by rw [tdiv_mul (by omega)]; exact ⟨by omega, by omega⟩⟩, ?_⟩
  refine endq rfl ?_
  rw [tdiv_mul (by omega)]
theorem flo_Z {p q : Int} (hq : q ≠ 0) : flo p q = floorZ p q := by
  have h := flo_rem (p := p) hq
  exact (floorZ_is hq ⟨p - flo p q * q, by omega, fun c => by omega, fun c => by omega⟩).symm
end Go.PI
