/- Own work of the verifier: CvDivi. -/
import Derived.Test.YtdflpkkgjppmgaaGreatCfBI
set_option linter.all false
set_option exponentiation.threshold 3000
set_option linter.deprecated false
/- divide, and what is divided by a common divisor. -/
open Go.Proofs
namespace Go.PI
open IM
set_option maxRecDepth 10000
set_option maxHeartbeats 4000000
variable (S : FuncId → Option (List AV → Heap → Option (AV × Heap)))
theorem sign_cases (X : Int) : (X < 0 ∧ Int.sign X = -1) ∨ (X = 0 ∧ Int.sign X = 0) ∨ (0 < X ∧ Int.sign X = 1) := by
  rcases Int.lt_trichotomy X 0 with h | h | h
  · exact .inl ⟨h, Int.sign_eq_neg_one_of_neg h⟩
  · subst h; exact .inr (.inl ⟨rfl, rfl⟩)
  · exact .inr (.inr ⟨h, Int.sign_eq_one_of_pos h⟩)
theorem dlen_le {X Y : Int} (h : X.natAbs ≤ Y.natAbs) : (digits X).length ≤ (digits Y).length := by
  have h1 := abs_len (nrm_digits X)
  have h2 := abs_len (nrm_digits Y)
  rw [val_digits] at h1 h2
  rw [← h1, ← h2]
  exact digits_len_le (by omega) (by omega)
theorem divide_ct (hS : OldI S) {X Y : Int} (lx : (digits X).length ≤ 800) (ly : (digits Y).length ≤ 800) (hY : Y ≠ 0) :
    Ct (ctx.plus S) 166 [pI X, pI Y] 250 fun r => r = .tup [pI (X / Y), pI (X % Y)] := by
  refine ct_of hS.h166 fn166 ?_
  have D := Hid.mk (div_signs (X := X) hY)
  obtain ⟨A, hA⟩ : ∃ A : Int, (X.natAbs : Int) = A := ⟨_, rfl⟩
  obtain ⟨B, hB⟩ : ∃ B : Int, (Y.natAbs : Int) = B := ⟨_, rfl⟩
  have hA0 : 0 ≤ A := by omega
  have hB0 : 0 < B := by omega
  have lA : (digits A).length ≤ 800 := by rw [← hA]; exact Nat.le_trans (dlen_le (by omega)) lx
  have lB : (digits B).length ≤ 800 := by rw [← hB]; exact Nat.le_trans (dlen_le (by omega)) ly
  refine callq rfl (size_ct S hS.h187 hS.o.h183 hS.h193 (X := X) (by omega)) (by omega) ?_
  rintro _ rfl
  refine callq rfl (size_ct S hS.h187 hS.o.h183 hS.h193 (X := Y) (by omega)) (by omega) ?_
  rintro _ rfl
  rw [hA, hB] at D ⊢
  refine callq rfl (quot_ct S hS (by omega) (by omega) hA0 hB0) (by omega) ?_
  rintro _ rfl
  obtain ⟨Q, hQ⟩ : ∃ Q, A / B = Q := ⟨_, rfl⟩
  obtain ⟨W, hW⟩ : ∃ W, A % B = W := ⟨_, rfl⟩
  rw [hQ, hW] at D ⊢
  have hW0 : 0 ≤ W := by rw [← hW]; exact Int.emod_nonneg _ (by omega)
  have hWl : W < B := by rw [← hW]; exact Int.emod_lt_of_pos _ hB0
  have hQ0 : 0 ≤ Q := by rw [← hQ]; exact Int.ediv_nonneg hA0 (by omega)
  have hQl : Q ≤ A := by rw [← hQ]; exact Int.ediv_le_self _ hA0
  have lQ : (digits Q).length ≤ 800 := Nat.le_trans (digits_len_le hQ0 hQl) lA
  have lW : (digits W).length ≤ 800 := Nat.le_trans (digits_len_le hW0 (by omega)) lB
  have lQ1 : (digits (Q + 1 * 1)).length ≤ 900 := by
    have h1 := (dig_digits hQ0).val.2
    rw [val_digits] at h1
    have h2 := pw_mono lQ
    have h3 : pw (800 + 1) = 100000000 * pw 800 := pw_succ 800
    have := pw_pos 800
    exact Nat.le_trans (len_of (k := 800 + 1) (by omega)) (by omega)
  refine callq rfl (sign_ct S hS.o.h183 (X := X) (by omega)) (by omega) ?_
  rintro _ rfl
  have fin : ∀ {σ : List StB} {q w : Int}, (q = X / Y) → (w = X % Y) → EndsK σ [pI q, pI w] fun r => r = .tup [pI (X / Y), pI (X % Y)] := fun h1 h2 => endsq rfl (by rw [h1, h2])
  rcases sign_cases X with ⟨hX, sX⟩ | ⟨hX, sX⟩ | ⟨hX, sX⟩
  · rw [sX]
    refine ⟨fun _ => ?_, fun h => absurd h (by omega)⟩
    refine ⟨fun hw => ?_, fun hw => ?_⟩
    · have hW1 : W ≠ 0 := fun h => by subst h; simp [show digits 0 = [] from rfl] at hw
      refine ⟨by omega, part1 fzI ⟨[pn 1], rfl, ?_⟩⟩
      refine cal3 fzL fzI (fz_own rfl (Nat.le_of_ble_eq_true rfl) (by decide) rfl) (plus_ct S hS.o hS.h152 (X := Q) (Y := 1) (f := 1) (by omega) (by decide) (by omega)) (by omega) ?_
      rintro _ rfl
      refine callq rfl (plus_ct S hS.o hS.h152 (X := B) (Y := W) (f := -1) (by omega) (by omega) (by omega)) (by omega) ?_
      rintro _ rfl
      refine callq rfl (sign_ct S hS.o.h183 (X := X) (by omega)) (by omega) ?_
      rintro _ rfl
      refine callq rfl (sign_ct S hS.o.h183 (X := Y) (by omega)) (by omega) ?_
      rintro _ rfl
      rcases sign_cases Y with ⟨hY', sY⟩ | ⟨hY', sY⟩ | ⟨hY', sY⟩
      · rw [sX, sY]
        refine ⟨fun h => absurd rfl h, fun _ => fin ?_ ?_⟩
        · have d9 := D.h.2.2.2.2.2.2.2.2 hX hY' hW1; omega
        · have d3 := D.h.2.2.1 hX hW1; omega
      · exact absurd hY' hY
      · rw [sX, sY]
        refine ⟨fun _ => ?_, fun h => absurd h (by decide)⟩
        refine callq rfl (neg_ct S hS.h193 (by omega)) (by omega) ?_
        rintro _ rfl
        refine fin ?_ ?_
        · have d8 := D.h.2.2.2.2.2.2.2.1 hX hY' hW1; omega
        · have d3 := D.h.2.2.1 hX hW1; omega
    · have hW1 : W = 0 := digits_nil.1 (List.eq_nil_of_length_eq_zero (by omega))
      refine callq rfl (sign_ct S hS.o.h183 (X := X) (by omega)) (by omega) ?_
      rintro _ rfl
      refine callq rfl (sign_ct S hS.o.h183 (X := Y) (by omega)) (by omega) ?_
      rintro _ rfl
      rcases sign_cases Y with ⟨hY', sY⟩ | ⟨hY', sY⟩ | ⟨hY', sY⟩
      · rw [sX, sY]
        refine ⟨fun h => absurd rfl h, fun _ => fin ?_ ?_⟩
        · rw [D.h.2.2.2.2.2.2.1 hX hY' hW1]
        · have d2 := D.h.2.1 hX hW1; omega
      · exact absurd hY' hY
      · rw [sX, sY]
        refine ⟨fun _ => ?_, fun h => absurd h (by decide)⟩
        refine callq rfl (neg_ct S hS.h193 (by omega)) (by omega) ?_
        rintro _ rfl
        refine fin ?_ ?_
        · rw [D.h.2.2.2.2.2.1 hX hY' hW1]
        · have d2 := D.h.2.1 hX hW1; omega
  all_goals
    rw [sX]
    refine ⟨fun h => absurd h (by omega), fun _ => ?_⟩
    refine callq rfl (sign_ct S hS.o.h183 (X := X) (by omega)) (by omega) ?_
    rintro _ rfl
    refine callq rfl (sign_ct S hS.o.h183 (X := Y) (by omega)) (by omega) ?_
    rintro _ rfl
    rw [sX]
    have e1 := D.h.1 (by omega)
    have e4 := D.h.2.2.2.1 (by omega)
    have e5 := D.h.2.2.2.2.1 (by omega)
    rcases sign_cases Y with ⟨hY', sY⟩ | ⟨hY', sY⟩ | ⟨hY', sY⟩
    · rw [sY]
      refine ⟨fun _ => ?_, fun h => absurd h (by decide)⟩
      refine callq rfl (neg_ct S hS.h193 (by omega)) (by omega) ?_
      rintro _ rfl
      exact fin (by rw [e5 hY']) (by rw [e1])
    · exact absurd hY' hY
    · rw [sY]
      first
        | exact ⟨fun h => absurd rfl h, fun _ => fin (by rw [e4 hY']) (by rw [e1])⟩
        | (refine ⟨fun _ => ?_, fun h => absurd h (by decide)⟩
           refine callq rfl (neg_ct S hS.h193 (by omega)) (by omega) ?_
           rintro _ rfl
           have : Q = 0 := by omega
           exact fin (by rw [e4 hY']; omega) (by rw [e1]))
end Go.PI
