/- Own work of the verifier: HoW. -/
import Derived.Test.YtfebkjgioddgaaaHpBG
import Derived.Test.YtfebkjgioddgaaaHpBC
set_option linter.all false
set_option exponentiation.threshold 3000
set_option linter.deprecated false
/- THE LAW OF THE FORM. -/
open Go.Proofs
namespace Go.PI
open IM
set_option maxRecDepth 200000
set_option maxHeartbeats 4000000
variable (S : FuncId → Option (List AV → Heap → Option (AV × Heap)))
variable {n : Nat} {f f' g g' : Nat → Nat}
theorem fz_rows2 {i : Nat} {ty : TypeId} {A B : List Int} {σ : List StB} (hg : contOf σ i = some (ty, [pIs A, pIs B])) : Fz (.own i 0 2 2 1) σ (pM [A, B]) (σ.set i (.frz ty [pIs A, pIs B])) := fz_own hg (Nat.le_refl _) (Nat.le_refl _) rfl
theorem fz_grown {i n : Nat} {σ : List StB} {xs : List Int} {cs : List PV} {ty : TypeId} (h : contOf σ i = some (ty, cs)) (hc : cs = xs.map pn) (hl : xs.length = n) : Fz (.ownu i n 1) σ (pIs xs) (σ.set i (.frz ty cs)) := by
  subst hc; subst hl
  exact fun K hK => ⟨ty, _, _, h, by simp, by rw [Nat.mul_one]; exact List.take_of_length_le (by simp), hK⟩
theorem fn5 : ctx.fn 5 = some c5 := by kernel_rfl
theorem formLaw_ct (hS : OldO S) (hA8 : Ct (ctx.plus S) 8 [] 0 fun r => r = .bool true) {r u A B : List Int} {q k : Int} (hk : -128 ≤ k ∧ k ≤ 127) : Ct (ctx.plus S) 5 [pO r u, .agg [pIs A, pIs B, pn q], .int .i8 k] 200000 fun v => v = .bool true := by
  refine ct_of (hS 5 (by decide)) fn5 ?_
  refine ⟨by omega, ?_⟩
  refine ⟨by omega, ?_⟩
  refine callq rfl hA8 (by omega) ?_
  rintro _ rfl
  refine ⟨_, rfl, ?_⟩
  refine callq rfl (small_ct S hS) (by omega) ?_
  rintro _ (⟨hs, rfl⟩ | ⟨hs, rfl⟩)
  rotate_left
  · exact endq rfl rfl
  refine ⟨_, rfl, ?_⟩
  refine callq rfl (short_ct S hS) (by omega) ?_
  rintro _ (⟨hl, rfl⟩ | ⟨hl, rfl⟩)
  rotate_left
  · exact endq rfl rfl
  refine ⟨_, rfl, ?_⟩
  refine callq rfl (short_ct S hS) (by omega) ?_
  rintro _ (⟨hl2, rfl⟩ | ⟨hl2, rfl⟩)
  rotate_left
  · exact endq rfl rfl
  have l1 : r.length ≤ 70 ∧ u.length ≤ 70 := ⟨hs.1, hs.2.1⟩
  refine ⟨_, rfl, ?_⟩
  refine ⟨_, rfl, ?_⟩
  refine ⟨_, rfl, ?_⟩
  refine ⟨by omega, partc rfl ⟨_, rfl, ?_⟩⟩
  by_cases h0 : chkO r u = 0
  rotate_left
  · refine cal2 (fun K h => frzAK_clo rfl h) (fz_rows2 rfl) (cycles_bad S hS (by omega) (by omega) h0) (by omega) ?_
    rintro _ rfl
    refine ⟨fun _ => ?_, fun h => absurd h h0⟩
    exact endq rfl rfl
  obtain ⟨n, f, f', g, g', ho⟩ := chkO_ok h0
  have hn := ho.n6 hs
  refine cal2 (fun K h => frzAK_clo rfl h) (fz_rows2 rfl) (cyclesLaw_ct S hS ho (by omega) (by omega) (by simp) (fun X hX => by
    simp only [List.mem_cons, List.not_mem_nil, or_false] at hX
    rcases hX with rfl | rfl <;> omega)) (by omega) ?_
  rintro _ ⟨e, rfl, he⟩
  refine ⟨fun _ => ?_, fun h => ?_⟩
  · exact endq rfl rfl
  obtain ⟨CA, rfl, wA, kA⟩ := he h A (by simp)
  obtain ⟨CB, rfl, wB, kB⟩ := he h B (by simp)
  clear he h
  have n0 : 0 < n := ho.pos
  refine ⟨by kernel_rfl, ?_⟩
  refine ⟨_, rfl, rfl, ?_⟩
  refine ⟨_, rfl, rfl, ?_⟩
  refine ⟨_, rfl, rfl, ?_⟩
  have hm := mod_ct S hS (n := r.length) (p := q) (by have := ho.l1; omega) (by have := ho.l1; omega)
  refine callq rfl hm (by omega) ?_
  rintro _ ⟨i0, hi0, rfl⟩
  have hi0 : i0 < n := by have := ho.l1; omega
  refine callq rfl (square_ct S hS ho hi0) (by omega) ?_
  rintro _ rfl
  refine ⟨fun h => absurd rfl h, fun _ => ?_⟩
  refine ⟨_, rfl, ?_⟩
  refine ⟨fun h => absurd (by rw [FL_len, FL_len]) h, fun _ => ?_⟩
  refine ⟨by kernel_rfl, ?_⟩
  refine ⟨_, rfl, rfl, ?_⟩
  have neA : FL (2 * n) CA ≠ [] := fun e => by have := congrArg List.length e; rw [FL_len] at this; simp at this; omega
  have neB : FL (2 * n) CB ≠ [] := fun e => by have := congrArg List.length e; rw [FL_len] at this; simp at this; omega
  refine callqu rfl (copyInts_cu S hS neA (by omega)) (by omega) ?_
  rintro ty _ _ _ ⟨rfl, rfl, rfl, rfl⟩
  refine ⟨_, rfl, rfl, ?_⟩
  refine callqu rfl (copyInts_cu S hS neB (by omega)) (by omega) ?_
  rintro ty _ _ _ ⟨rfl, rfl, rfl, rfl⟩
  have lA : (FL (2 * n) CA).length = 2 * n := FL_len
  have lB : (FL (2 * n) CB).length = 2 * n := FL_len
  have lS : (FL (2 * n) (sq n f' g' i0)).length = 2 * n := FL_len
  have iA := wi_FL wA
  have iB := wi_FL wB
  have sb : ∀ e, -1 ≤ sq n f' g' i0 e ∧ sq n f' g' i0 e ≤ 1 := fun e => by unfold sq ind; split <;> split <;> omega
  have kb : ∀ e, -128 ≤ k * sq n f' g' i0 e ∧ k * sq n f' g' i0 e ≤ 128 := fun e => by
    have h1 := sb e
    have h2 : (k * sq n f' g' i0 e).natAbs ≤ 128 * 1 := by
      rw [Int.natAbs_mul]
      exact Nat.mul_le_mul (by omega) (by omega)
    omega
  refine ⟨fun m s => ∃ (i b : Nat) (P Q : Nat → Int) (T : List PV), s = ⟨T, [.live 24 [pIs r, pIs u], .live 49 [pIs (FL (2 * n) CA), pIs (FL (2 * n) CB), pn q], .frz 22 [pIs (FL (2 * n) CA), pIs (FL (2 * n) CB)], .live 3 ((FL (2 * n) P).map pn), .live 3 ((FL (2 * n) Q).map pn)], b⟩ ∧ Gt T 203 [(2, .int .i8 k), (3, .optr 0 0), (4, .optr 1 0), (7, pIs (FL (2 * n) (sq n f' g' i0))), (9, .ownu 3 (FL (2 * n) CA).length 1), (10, .ownu 4 (FL (2 * n) CB).length 1), (11, pn i)] ∧ m = 2 * n - i ∧ i ≤ 2 * n ∧ b ≤ 40000 ∧ Hid ((∀ e, e < i → P e = CA e + k * sq n f' g' i0 e ∧ (-1000000 ≤ P e ∧ P e ≤ 1000000) ∧ Q e = CB e + P e ∧ (-1000000 ≤ Q e ∧ Q e ≤ 1000000)) ∧ (∀ e, i ≤ e → P e = CA e)), ⟨_, ci ⟨0, _, CA, CB, _, rfl, ⟨rfl, rfl, rfl, rfl, rfl, rfl, rfl, rfl, trivial⟩, rfl, Nat.zero_le _, by omega, ⟨fun e he => by omega, fun e he => rfl⟩⟩⟩, ?_⟩
  rintro _ s ⟨i, b, P, Q, T, rfl, hT, rfl, hi, hb, hh⟩
  obtain ⟨J, rfl⟩ := gt_open hT
  clear hT
  obtain ⟨h1, h2⟩ := hh.h
  clear hh
  refine ⟨fun hlt => ?_, fun hge => ?_⟩
  · have him : i < 2 * n := by omega
    have hP := h2 i (Nat.le_refl _)
    have hkb := kb i
    have hAi := iA i him
    have hBi := iB i him
    have hsi := sb i
    have him2 : i < (FL (2 * n) P).length := by rw [FL_len]; exact him
    have him3 : i < (FL (2 * n) Q).length := by rw [FL_len]; exact him
    refine ⟨by kernel_rfl, ?_⟩
    refine ⟨⟨by omega, by omega⟩, ?_⟩
    refine ⟨_, load_k rfl rfl rfl (at_map (FL_get him)) (by show 0 + i * 1 = i; omega), rfl, ?_⟩
    refine ⟨⟨⟨by omega, by omega⟩, len_map_le (by omega)⟩, ?_⟩
    refine ⟨_, ld (at_map (FL_get him)) (by show _ * 1 = i; omega), rfl, ?_⟩
    have hw : IntKind.i64.wrap k = k := wrap64 ⟨by omega, by omega⟩
    refine ⟨⟨by rw [hw]; omega, by rw [hw]; omega⟩, ?_⟩
    rw [hw]
    obtain ⟨x, hx⟩ : ∃ x, x = k * sq n f' g' i0 i := ⟨_, rfl⟩
    rw [← hx] at hkb ⊢
    refine ⟨⟨by omega, by omega⟩, ?_⟩
    refine ⟨⟨by omega, by omega⟩, ?_⟩
    refine ⟨_, _, rfl, ⟨rfl, by rw [List.length_map, FL_len]; show 0 + i * 1 + 1 ≤ _; omega, rfl⟩, _, FL_put (i := i) (by show 0 + i * 1 = i; omega) him, _, rfl, ?_⟩
    have hP' : ∀ y, (fun j => if j = i then y else P j) i = y := fun y => if_pos rfl
    refine ⟨by kernel_rfl, ?_⟩
    refine ⟨_, rfl, rfl, ?_⟩
    refine ⟨⟨⟨by omega, by omega⟩, len_map_le (by omega)⟩, ?_⟩
    refine ⟨_, ld (at_map (FL_get him)) (by show _ * 1 = i; omega), rfl, ?_⟩
    refine ⟨⟨by omega, by omega⟩, ?_⟩
    refine ⟨_, load_k rfl rfl rfl (at_map ((FL_get him).trans (congrArg some (hP' _)))) (by show 0 + i * 1 = i; omega), rfl, ?_⟩
    refine ⟨⟨by omega, by omega⟩, ?_⟩
    refine ⟨⟨by omega, by omega⟩, ?_⟩
    refine ⟨_, _, rfl, ⟨rfl, by rw [List.length_map, FL_len]; show 0 + i * 1 + 1 ≤ _; omega, rfl⟩, _, FL_put (i := i) (by show 0 + i * 1 = i; omega) him, _, rfl, ?_⟩
    have hQ' : ∀ y, (fun j => if j = i then y else Q j) i = y := fun y => if_pos rfl
    refine ⟨⟨by omega, by omega⟩, ?_⟩
    refine ⟨_, load_k rfl rfl rfl (at_map ((FL_get him).trans (congrArg some (hP' _)))) (by show 0 + i * 1 = i; omega), ?_⟩
    refine callq rfl (rabs_ct S hS (by omega)) (by omega) ?_
    rintro _ rfl
    refine ⟨fun h => ?_, fun h => ?_⟩
    · exact endq rfl rfl
    refine ⟨⟨by omega, by omega⟩, ?_⟩
    refine ⟨_, load_k rfl rfl rfl (at_map ((FL_get him).trans (congrArg some (hQ' _)))) (by show 0 + i * 1 = i; omega), ?_⟩
    refine callq rfl (rabs_ct S hS (by omega)) (by omega) ?_
    rintro _ rfl
    refine ⟨fun h => ?_, fun h' => ?_⟩
    · exact endq rfl rfl
    refine ⟨⟨by omega, by omega⟩, ?_⟩
    exact ⟨_, by omega, ci ⟨i + 1, _, _, _, _, rfl, ⟨rfl, rfl, rfl, rfl, rfl, rfl, rfl, rfl, trivial⟩, rfl, by omega, by omega, ⟨fun e he => (by
      by_cases ee : e = i
      · subst ee
        simp only [if_true]
        rw [← hx, ← hP]
        refine ⟨rfl, ⟨?_, ?_⟩, ?_, ?_⟩
        all_goals first | trivial | omega
      · simp only [if_neg ee]
        exact h1 e (by omega)), fun e he => (by
      simp only [if_neg (show e ≠ i by omega)]
      exact h2 e (by omega))⟩⟩⟩
  · have hie : i = 2 * n := by omega
    obtain ⟨P', hP'⟩ : ∃ P' : Nat → Int, P' = fun e => CA e + k * sq n f' g' i0 e := ⟨_, rfl⟩
    obtain ⟨Q', hQ'⟩ : ∃ Q' : Nat → Int, Q' = fun e => CB e + 1 * P' e := ⟨_, rfl⟩
    have eP : FL (2 * n) P = FL (2 * n) P' := FL_eq fun e he => by rw [(h1 e (by omega)).1, hP']
    have eQ : FL (2 * n) Q = FL (2 * n) Q' := FL_eq fun e he => by
      rw [(h1 e (by omega)).2.2.1, (h1 e (by omega)).1, hQ', hP']
      show _ = CB e + 1 * (CA e + k * sq n f' g' i0 e)
      rw [Int.one_mul]
    have wi_of : ∀ X : Nat → Int, (∀ e, e < 2 * n → -1000000 ≤ X e ∧ X e ≤ 1000000) → Wi (FL (2 * n) X) 1000000 := fun X hX x hx => by
      obtain ⟨e, he, rfl⟩ := List.mem_map.1 hx
      exact hX e (List.mem_range.1 he)
    have wP : Wi (FL (2 * n) P') 1000000 := by
      rw [← eP]
      exact wi_of P fun e he => (h1 e (by omega)).2.1
    have wQ : Wi (FL (2 * n) Q') 1000000 := by
      rw [← eQ]
      exact wi_of Q fun e he => (h1 e (by omega)).2.2.2
    have wS : Wi (FL (2 * n) (sq n f' g' i0)) 1000000 := wi_of _ fun e _ => by have := sb e; omega
    have kS : Cyk n f f' g g' (sq n f' g' i0) := sq_cyk ho.pr ho.pu
    have kP : Cyk n f f' g g' P' := by rw [hP']; exact Cyk_lin k kA kS
    have kQ : Cyk n f f' g g' Q' := by rw [hQ']; exact Cyk_lin 1 kB kP
    have x1 : Isn n f f' g g' CB CA = - Isn n f f' g g' CA CB := by have := Isn_anti ho.pr ho.pu kA kB; omega
    have x0 : Isn n f f' g g' CA CA = 0 := by have := Isn_anti ho.pr ho.pu kA kA; omega
    have xB : Isn n f f' g g' (sq n f' g' i0) CB = 0 := Isn_sq ho.pr ho.pu hi0 kB
    have xA : Isn n f f' g g' (sq n f' g' i0) CA = 0 := Isn_sq ho.pr ho.pu hi0 kA
    have x2 : Isn n f f' g g' P' CB = Isn n f f' g g' CA CB := by rw [hP', Isn_lin, xB]; omega
    have x4 : Isn n f f' g g' P' CA = 0 := by rw [hP', Isn_lin, xA]; omega
    have x3 : Isn n f f' g g' CA Q' = Isn n f f' g g' CA CB := by
      have h3 := Isn_anti ho.pr ho.pu kA kQ
      have h4 : Isn n f f' g g' Q' CA = Isn n f f' g g' CB CA + 1 * Isn n f f' g g' P' CA := by rw [hQ', Isn_lin]
      rw [x4, x1] at h4
      omega
    rw [eP, eQ]
    have lP : (FL (2 * n) P').length = 2 * n := FL_len
    have lQ : (FL (2 * n) Q').length = 2 * n := FL_len
    refine ⟨_, rfl, ?_⟩
    refine ⟨_, rfl, ?_⟩
    refine ⟨_, rfl, ?_⟩
    refine callq rfl (intersect_ct S hS ho hn wA wB kA kB) (by omega) ?_
    rintro _ ⟨rfl, b1⟩
    refine ⟨_, rfl, ?_⟩
    refine ⟨_, rfl, ?_⟩
    refine ⟨_, rfl, ?_⟩
    refine callq rfl (intersect_ct S hS ho hn wB wA kB kA) (by omega) ?_
    rintro _ ⟨rfl, -⟩
    refine ⟨_, rfl, ?_⟩
    refine ⟨_, rfl, ?_⟩
    refine cal3 (fun K h => frzAK_clo rfl h) (fz_grown rfl rfl (by omega)) fzL (intersect_ct S hS ho hn wP wB kP kB) (by omega) ?_
    rintro _ ⟨rfl, -⟩
    refine ⟨_, rfl, ?_⟩
    refine ⟨_, rfl, ?_⟩
    refine cal3 (fun K h => frzAK_clo rfl h) fzL (fz_grown rfl rfl (by omega)) (intersect_ct S hS ho hn wA wQ kA kQ) (by omega) ?_
    rintro _ ⟨rfl, -⟩
    refine ⟨_, rfl, ?_⟩
    refine ⟨_, rfl, ?_⟩
    refine callq rfl (intersect_ct S hS ho hn wS wB kS kB) (by omega) ?_
    rintro _ ⟨rfl, -⟩
    rw [x1, x2, x3, xB]
    refine ⟨fun _ => ?_, fun h => absurd rfl h⟩
    refine ⟨fun _ => ?_, fun h => absurd rfl h⟩
    refine ⟨fun _ => ?_, fun h => absurd rfl h⟩
    refine ⟨fun _ => ?_, fun h => absurd rfl h⟩
    refine ⟨fun _ => ?_, fun h => absurd rfl h⟩
    refine ⟨⟨by omega, by omega⟩, ?_⟩
    refine ⟨fun _ => ?_, fun h => absurd (by omega) h⟩
    refine ⟨fun _ => ?_, fun h => absurd rfl h⟩
    refine ⟨fun _ => ?_, fun h => absurd rfl h⟩
    refine ⟨fun _ => ?_, fun h => absurd rfl h⟩
    exact endq rfl rfl
end Go.PI
