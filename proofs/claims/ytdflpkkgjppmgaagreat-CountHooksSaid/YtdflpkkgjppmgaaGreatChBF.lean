/- Own work of the verifier: CoW CoX CoT CoY CoZ CpA CpB CyA CoH CqA CqB CqC CrA CrB. -/
import Derived.Test.YtdflpkkgjppmgaaGreatChBE
import Derived.Test.YtdflpkkgjppmgaaGreatChBC
import Derived.Test.YtdflpkkgjppmgaaGreatChAW
set_option linter.all false
set_option exponentiation.threshold 3000
set_option linter.deprecated false
/- LISTS IN DESCENDING ORDER: how the reference makes them. -/
open Go.Proofs
namespace Go.PI
open IM
set_option maxRecDepth 20000
set_option maxHeartbeats 4000000
variable (S : FuncId → Option (List AV → Heap → Option (AV × Heap)))
def Gl (v : PV) (σ : List StB) (ys : List Int) : Prop :=
  (v = .nils ∧ ys = []) ∨ (∃ j, v = .own j 0 ys.length ys.length 1 ∧ σ[j]? = some (.live 3 (ys.map pn))) ∨ (∃ j, v = .ownu j ys.length 1 ∧ σ[j]? = some (.live 3 (ys.map pn)))
theorem Gl.fz {v : PV} {σ : List StB} {ys : List Int} (h : Gl v σ ys) : ∃ σ', Fz v σ (pIs ys) σ' := by
  rcases h with ⟨rfl, rfl⟩ | ⟨j, rfl, h⟩ | ⟨j, rfl, h⟩
  · exact ⟨σ, fzN⟩
  · exact ⟨_, fun K hK => ⟨3, _, _, contOf_live h, ⟨by simp, Nat.le_refl _⟩, by rw [List.drop_zero, List.take_of_length_le (by simp)], hK⟩⟩
  · exact ⟨_, fun K hK => ⟨3, _, _, contOf_live h, ⟨by simp, fun _ => rfl⟩, by rw [List.take_of_length_le (by simp)], hK⟩⟩
theorem Gl.push {v : PV} {σ : List StB} {ys : List Int} {b : StB} (h : Gl v σ ys) : Gl v (σ ++ [b]) ys := by
  rcases h with ⟨rfl, rfl⟩ | ⟨j, rfl, h⟩ | ⟨j, rfl, h⟩
  · exact .inl ⟨rfl, rfl⟩
  · exact .inr (.inl ⟨j, rfl, by rw [List.getElem?_append_left (List.getElem?_eq_some_iff.1 h).1]; exact h⟩)
  · exact .inr (.inr ⟨j, rfl, by rw [List.getElem?_append_left (List.getElem?_eq_some_iff.1 h).1]; exact h⟩)
theorem Gl.apW {v : PV} {σ : List StB} {ys : List Int} {T : List PV} {qs : List Tmp} (h : Gl v σ ys) (k : ∀ j, apC T j qs) : PI.apW T qs v := by
  rcases h with ⟨rfl, rfl⟩ | ⟨j, rfl, h⟩ | ⟨j, rfl, h⟩
  · trivial
  · exact k j
  · exact k j
theorem appL {σ : List StB} {v : PV} {ys xs : List Int} { c k : Nat} {K : PV → List StB → Nat → Prop} (hg : Gl v σ ys) (hx : xs.length ≤ 1000000) (hy : ys.length ≤ 1000000) (hk : k < c)
    (hK : ∀ v' σ' k', k ≤ k' → k' ≤ k + 1 → Gl v' σ' (ys ++ xs) → K v' σ' k') : AppK (ctx.plus S) c k σ [22, 22] v (pIs xs) K := by
  rcases hg with ⟨rfl, rfl⟩ | ⟨j, rfl, h⟩ | ⟨j, rfl, h⟩
  · refine ⟨⟨by rw [List.length_map]; show xs.length = xs.length * 1; omega, ⟨⟨by show xs.length ≤ 2 ^ 30; omega, pones_pn xs⟩, fun h => ?_, fun h => ⟨hk, ?_⟩⟩⟩⟩
    · have h0 : xs = [] := List.eq_nil_of_length_eq_zero (by have : (xs).length = 0 := h; exact this)
      have hz := hK .nils σ k (Nat.le_refl _) (by omega) (.inl ⟨rfl, by rw [h0]; rfl⟩)
      exact hz
    · exact hK _ _ _ (by omega) (Nat.le_refl _) (.inr (.inr ⟨σ.length, by simp; rfl, by simp⟩))
  · have hjl := (List.getElem?_eq_some_iff.1 h).1
    refine ⟨⟨by rw [List.length_map]; show xs.length = xs.length * 1; omega, ⟨⟨by show xs.length ≤ 2 ^ 30; omega, pones_pn xs⟩, by show ys.length ≤ 2 ^ 30; omega, fun hc => ?_, fun hc => ⟨hk, 3, _, (ys ++ xs).map pn, contOf_live h, by rw [List.length_map]; show 0 + ys.length * 1 ≤ ys.length; omega, ?_, ?_⟩⟩⟩⟩
    · have h0 : xs = [] := List.eq_nil_of_length_eq_zero (by have : ys.length + xs.length ≤ ys.length := hc; omega)
      refine ⟨3, _, ys.map pn, h, ?_, ?_, ?_⟩
      · show 0 + ys.length * 1 + ((xs).map pn).length ≤ (ys.map pn).length
        rw [h0]
        simp
      · show pspl (ys.map pn) (0 + ys.length * 1) ((xs).map pn) = _
        rw [h0]
        unfold pspl
        simp
      · have hz := hK (.own j 0 (ys.length + xs.length) ys.length 1) (σ.set j (.live 3 (ys.map pn))) k (Nat.le_refl _) (by omega) (.inr (.inl ⟨j, by rw [h0]; simp, ?_⟩))
        · exact hz
        rw [List.getElem?_set_self hjl, h0]
        simp
    · show ((ys.map pn).drop 0).take (ys.length * 1) ++ (xs).map pn = _
      rw [List.drop_zero, List.take_of_length_le (by simp), List.map_append]
    · exact hK _ _ _ (by omega) (Nat.le_refl _) (.inr (.inr ⟨σ.length, by rw [List.length_append]; rfl, by simp⟩))
  · refine ⟨⟨by rw [List.length_map]; show xs.length = xs.length * 1; omega, ⟨⟨by show xs.length ≤ 2 ^ 30; omega, pones_pn xs⟩, ⟨by show ys.length ≤ 2 ^ 30; omega, rfl, hk⟩, _, (ys ++ xs).map pn, h, by rw [List.length_map]; show ys.length * 1 ≤ ys.length; omega, ?_, ?_⟩⟩⟩
    · show (ys.map pn).take (ys.length * 1) ++ (xs).map pn = _
      rw [List.take_of_length_le (by simp), List.map_append]
    · exact hK _ _ _ (by omega) (Nat.le_refl _) (.inr (.inr ⟨(σ.set j .dead).length, by rw [List.length_append, List.length_set], by simp⟩))
theorem app1 {σ : List StB} {v : PV} {ys : List Int} {x : Int} {ty : TypeId} {i m c k : Nat} {K : PV → List StB → Nat → Prop} (hg : Gl v σ ys) (hi : contOf σ i = some (ty, [pn x])) (hy : ys.length ≤ 1000000) (hk : k < c)
    (hK : ∀ v' σ' k', k ≤ k' → k' ≤ k + 1 → Gl v' σ' (ys ++ [x]) → K v' σ' k') : AppK (ctx.plus S) c k σ [22, 22] v (.own i 0 1 1 m) K := by
  rcases hg with ⟨rfl, rfl⟩ | ⟨j, rfl, h⟩ | ⟨j, rfl, h⟩
  · refine ⟨⟨ty, [pn x], [pn x], hi, by show 0 + 1 * 1 ≤ 1; omega, rfl, ⟨⟨by show 1 ≤ 2 ^ 30; decide, pones_pn [x]⟩, fun h => ?_, fun h => ⟨hk, ?_⟩⟩⟩⟩
    · have h0 : [x] = [] := List.eq_nil_of_length_eq_zero (by have : ([x]).length = 0 := h; exact this)
      have hz := hK .nils σ k (Nat.le_refl _) (by omega) (.inl ⟨rfl, by rw [h0]; rfl⟩)
      exact hz
    · exact hK _ _ _ (by omega) (Nat.le_refl _) (.inr (.inr ⟨σ.length, by simp; rfl, by simp⟩))
  · have hjl := (List.getElem?_eq_some_iff.1 h).1
    refine ⟨⟨ty, [pn x], [pn x], hi, by show 0 + 1 * 1 ≤ 1; omega, rfl, ⟨⟨by show 1 ≤ 2 ^ 30; decide, pones_pn [x]⟩, by show ys.length ≤ 2 ^ 30; omega, fun hc => ?_, fun hc => ⟨hk, 3, _, (ys ++ [x]).map pn, contOf_live h, by rw [List.length_map]; show 0 + ys.length * 1 ≤ ys.length; omega, ?_, ?_⟩⟩⟩⟩
    · have h0 : [x] = [] := List.eq_nil_of_length_eq_zero (by have : ys.length + [x].length ≤ ys.length := hc; omega)
      refine ⟨3, _, ys.map pn, h, ?_, ?_, ?_⟩
      · show 0 + ys.length * 1 + (([x]).map pn).length ≤ (ys.map pn).length
        rw [h0]
        simp
      · show pspl (ys.map pn) (0 + ys.length * 1) (([x]).map pn) = _
        rw [h0]
        unfold pspl
        simp
      · have hz := hK (.own j 0 (ys.length + [x].length) ys.length 1) (σ.set j (.live 3 (ys.map pn))) k (Nat.le_refl _) (by omega) (.inr (.inl ⟨j, by rw [h0]; simp, ?_⟩))
        · exact hz
        rw [List.getElem?_set_self hjl, h0]
        simp
    · show ((ys.map pn).drop 0).take (ys.length * 1) ++ ([x]).map pn = _
      rw [List.drop_zero, List.take_of_length_le (by simp), List.map_append]
    · exact hK _ _ _ (by omega) (Nat.le_refl _) (.inr (.inr ⟨σ.length, by rw [List.length_append]; rfl, by simp⟩))
  · refine ⟨⟨ty, [pn x], [pn x], hi, by show 0 + 1 * 1 ≤ 1; omega, rfl, ⟨⟨by show 1 ≤ 2 ^ 30; decide, pones_pn [x]⟩, ⟨by show ys.length ≤ 2 ^ 30; omega, rfl, hk⟩, _, (ys ++ [x]).map pn, h, by rw [List.length_map]; show ys.length * 1 ≤ ys.length; omega, ?_, ?_⟩⟩⟩
    · show (ys.map pn).take (ys.length * 1) ++ ([x]).map pn = _
      rw [List.take_of_length_le (by simp), List.map_append]
    · exact hK _ _ _ (by omega) (Nat.le_refl _) (.inr (.inr ⟨(σ.set j .dead).length, by rw [List.length_append, List.length_set]; rfl, by simp⟩))
def dsc (xs : List Int) : List Int := (srt xs).reverse
end Go.PI
/- LISTS IN DESCENDING ORDER: falling, of the reference. -/
open Go.Proofs
namespace Go.PI
open IM
set_option maxRecDepth 20000
set_option maxHeartbeats 4000000
variable (S : FuncId → Option (List AV → Heap → Option (AV × Heap)))
end Go.PI
/- PRODUCTS OF THE LIBRARY, by 1; one number, repeated. -/
open Go.Proofs
namespace Go.PI
open IM
set_option maxRecDepth 20000
set_option maxHeartbeats 4000000
variable (S : FuncId → Option (List AV → Heap → Option (AV × Heap)))
abbrev pu (n : Int) : PV := .int .u64 n
theorem int_zero {n : Nat} : (List.replicate n [pn 0]).flatten = (List.replicate n (0 : Int)).map pn := by
  induction n with
  | zero => rfl
  | succ n ih => rw [List.replicate_succ, List.replicate_succ, List.flatten_cons, ih]; rfl
end Go.PI
/- slices.Reverse. -/
open Go.Proofs
namespace Go.PI
open IM
set_option maxRecDepth 20000
set_option maxHeartbeats 4000000
variable (S : FuncId → Option (List AV → Heap → Option (AV × Heap)))
theorem int_put {xs : List Int} {o j : Nat} {y : Int} (ho : o = j) (hj : j < xs.length) : pspl (xs.map pn) o [pn y] = (xs.set j y).map pn := by
  subst ho
  rw [spl_one (by rw [List.length_map]; exact hj), List.map_set]
theorem set_same {α : Type} {l : List α} {j : Nat} {x : α} (h : l[j]? = some x) : l.set j x = l := by
  obtain ⟨h1, rfl⟩ := List.getElem?_eq_some_iff.1 h
  exact List.set_getElem_self h1
theorem fn113 : ctx.fn 113 = some c113 := by kernel_rfl
theorem reverse_nil (hS : OldO S) {σ : List StB} : Cm (ctx.plus S) 113 [.nils] σ 0 fun w σ' => w = .tup [] ∧ σ' = σ := by
  refine cm_of Opn.no (hS 113 (by decide)) fn113 fun c k0 hc => ?_
  refine ⟨⟨by omega, by omega⟩, ?_⟩
  refine ⟨fun q s => ∃ (T : List PV), s = ⟨T, σ, k0⟩ ∧ Gt T 28 [(0, .nils), (2, pn 0), (3, pn (-1))] ∧ q = 0, ⟨_, ci ⟨_, rfl, ⟨rfl, rfl, rfl, rfl, trivial⟩, rfl⟩⟩, ?_⟩
  rintro q s ⟨T, rfl, hT, hq⟩
  obtain ⟨J, rfl⟩ := gt_open hT
  clear hT
  refine ⟨fun hlt => absurd hlt (by decide), fun hge => ?_⟩
  refine endm [] (by dsimp only; omega) ?_
  exact ⟨rfl, rfl⟩
end Go.PI
/- TYPES OF STRATA, of the program. -/
open Go.Proofs
namespace Go.PI
open IM
set_option maxRecDepth 20000
set_option maxHeartbeats 4000000
variable (S : FuncId → Option (List AV → Heap → Option (AV × Heap)))
structure OrdN (n : Int) (xs : List Int) : Prop where
  rng : 1 ≤ n ∧ n ≤ 20
  len : xs.length ≤ 1000
  el : ∀ x ∈ xs, 0 ≤ x ∧ x ≤ 20
  fit : sm xs + (xs.length : Int) ≤ n
end Go.PI
/- STRATA, of both. -/
open Go.Proofs
namespace Go.PI
open IM
set_option maxRecDepth 20000
set_option maxHeartbeats 4000000
variable (S : FuncId → Option (List AV → Heap → Option (AV × Heap)))
theorem sm_ge {xs : List Int} (h : ∀ x ∈ xs, 1 ≤ x) : (xs.length : Int) ≤ sm xs := by
  induction xs with
  | nil => simp [sm]
  | cons x xs ih =>
    have h1 := h x List.mem_cons_self
    have h2 := ih fun y hy => h y (List.mem_cons_of_mem _ hy)
    simp only [sm, List.length_cons]
    omega
end Go.PI
/- STRATA, of the reference. -/
open Go.Proofs
namespace Go.PI
open IM
set_option maxRecDepth 20000
set_option maxHeartbeats 4000000
variable (S : FuncId → Option (List AV → Heap → Option (AV × Heap)))
end Go.PI
/- LISTS OF INTEGERS: what is asked of permutations. -/
open Go.Proofs
namespace Go.PI
open IM
set_option maxRecDepth 10000
set_option maxHeartbeats 4000000
variable (S : FuncId → Option (List AV → Heap → Option (AV × Heap)))
theorem fz_fnc1 {f i : Nat} {ty : TypeId} {cs : List PV} {σ : List StB} (h : contOf σ i = some (ty, cs)) : Fz (.fnc f [.optr i 0]) σ (.fnc f [.lptr cs]) (σ.set i (.frz ty cs)) := fun _ hK => ⟨ty, cs, h, Nat.zero_le _, hK⟩
theorem cloA_of {p : PV} (h : clo p = true) : cloA p = true := by cases p <;> first | exact h | cases h
theorem cloAs_of : ∀ {ps : List PV}, clos ps = true → cloAs ps = true
  | [], _ => rfl
  | p :: ps, h => by
    simp only [clos, Bool.and_eq_true] at h
    simp only [cloAs, cloA_of h.1, cloAs_of h.2, Bool.and_self]
theorem cloAs_cons {p : PV} {ps : List PV} (h1 : cloA p = true) (h : clos ps = true) : cloAs (p :: ps) = true := by simp only [cloAs, h1, cloAs_of h, Bool.and_self]
end Go.PI
/- FRACTIONS of the reference; the formulas of both. -/
open Go.Proofs
namespace Go.PI
open IM
set_option maxRecDepth 20000
set_option maxHeartbeats 4000000
variable (S : FuncId → Option (List AV → Heap → Option (AV × Heap)))
theorem fn63 : ctx.fn 63 = some c63 := by kernel_rfl
theorem rquot_ct (hS : OldO S) {xs ys : List Int} {X Y : Int} (hx : Rw xs X) (hy : Rw ys Y) (lX : (digits X).length ≤ 18) (lY : (digits Y).length ≤ 18) (hY : Y ≠ 0) : Ct (ctx.plus S) 63 [pIs xs, pIs ys] 20000000 fun r => r = pI (X / Y) := by
  refine ct_of (hS 63 (by decide)) fn63 ?_
  refine callq rfl (rdivmod_ct S (oldR_of S hS) hx hy lX lY hY) (by omega) ?_
  rintro _ rfl
  exact endq rfl rfl
end Go.PI
/- FACTORIALS AND CENTRALIZERS, of both. -/
open Go.Proofs
namespace Go.PI
open IM
set_option maxRecDepth 20000
set_option maxHeartbeats 4000000
variable (S : FuncId → Option (List AV → Heap → Option (AV × Heap)))
def fac : Nat → Nat
  | 0 => 1
  | n + 1 => fac n * (n + 1)
theorem fac_pos : ∀ n, 0 < fac n
  | 0 => Nat.zero_lt_one
  | n + 1 => Nat.mul_pos (fac_pos n) (Nat.succ_pos n)
theorem fac_mono {m n : Nat} (h : m ≤ n) : fac m ≤ fac n := by
  induction n with
  | zero => have : m = 0 := by omega
            subst this; exact Nat.le_refl _
  | succ n ih =>
    rcases Nat.lt_or_ge n m with h1 | h1
    · have : m = n + 1 := by omega
      subst this; exact Nat.le_refl _
    · exact Nat.le_trans (ih h1) (Nat.le_mul_of_pos_right _ (Nat.succ_pos n))
theorem fac_20 {n : Nat} (h : n ≤ 20) : fac n ≤ 2432902008176640000 := Nat.le_trans (fac_mono h) (by decide)
theorem fn87 : ctx.fn 87 = some c87 := by kernel_rfl
theorem factorial_ct (hS : OldO S) {n : Nat} (hn : n ≤ 20) : Ct (ctx.plus S) 87 [pn n] 0 fun r => r = pn (fac n) := by
  refine ct_of (hS 87 (by decide)) fn87 ?_
  refine ⟨fun m s => ∃ (k : Nat) (T : List PV), s = ⟨T, [], 0⟩ ∧ Gt T 15 [(3, pn (fac k : Nat)), (5, pn n), (6, pn k)] ∧ m = n - k ∧ k ≤ n, ⟨_, ci ⟨0, _, rfl, ⟨rfl, rfl, rfl, rfl, trivial⟩, rfl, Nat.zero_le _⟩⟩, ?_⟩
  rintro m s ⟨k, T, rfl, hT, hm, hk⟩
  obtain ⟨J, rfl⟩ := gt_open hT
  clear hT
  refine ⟨fun hlt => ?_, fun hge => ?_⟩
  · have hb := fac_20 (n := k + 1) (by omega)
    have e : (fac k : Int) * ((k : Int) + 1) = ((fac (k + 1) : Nat) : Int) := by
      show _ = ((fac k * (k + 1) : Nat) : Int)
      rw [Int.natCast_mul]
      rfl
    refine ⟨⟨by omega, by omega⟩, ?_⟩
    refine ⟨by rw [e]; unfold In64; omega, ?_⟩
    refine ⟨⟨by omega, by omega⟩, ?_⟩
    exact ⟨_, by omega, ci ⟨k + 1, _, rfl, ⟨rfl, by show pn _ = pn _; rw [e], rfl, by show pn _ = pn _; norm_cast, trivial⟩, rfl, by omega⟩⟩
  · have : k = n := by omega
    subst this
    exact endq rfl rfl
end Go.PI
/- FACTORIALS AND CENTRALIZERS, of the reference. -/
open Go.Proofs
namespace Go.PI
open IM
set_option maxRecDepth 20000
set_option maxHeartbeats 4000000
variable (S : FuncId → Option (List AV → Heap → Option (AV × Heap)))
theorem fn64 : ctx.fn 64 = some c64 := by kernel_rfl
theorem digits_one : digits 1 = [1] := by decide
theorem one_pI : PV.lst 1 [pn 1] = pI 1 := by
  unfold pI
  rw [digits_one]
  rfl
theorem dig_18 {X : Int} (h : 0 ≤ X ∧ X ≤ 2432902008176640000) : (digits X).length ≤ 3 := len_of (k := 3) (by have : pw 3 = 1000000000000000000000000 := (by decide); omega)
theorem dig_20 {X : Int} (h : 0 ≤ X ∧ X ≤ 400) : (digits X).length ≤ 1 := len_of (k := 1) (by have : pw 1 = 100000000 := (by decide); omega)
theorem rfactorial_ct (hS : OldO S) {n : Nat} (hn : n ≤ 20) : Ct (ctx.plus S) 64 [pn n] 500000 fun r => r = pI (fac n : Nat) := by
  refine ct_of (hS 64 (by decide)) fn64 ?_
  refine ⟨by omega, part1 fzI ⟨[pn 1], rfl, ?_⟩⟩
  refine ⟨fun m s => ∃ (k b : Nat) (σ : List StB) (T : List PV), s = ⟨T, σ, b⟩ ∧ Gt T 16 [(0, pn n), (3, pI (fac (k + 1) : Nat)), (4, pn (k + 2 : Nat))] ∧ m = n - (k + 1) ∧ (k + 1 ≤ n ∨ k = 0) ∧ b ≤ 1 + 20001 * k, ⟨_, ⟨_, frzS_tmp (i := 3) (v := .own 0 0 1 1 1) (by rfl) (by exact ⟨3, [pn 1], [pn 1], rfl, ⟨by decide, by decide⟩, rfl, rfl⟩), 0, _, _, _, rfl, ⟨rfl, rfl, by show PV.lst 1 [pn 1] = pI _; exact one_pI, rfl, trivial⟩, rfl, .inr rfl, by omega⟩⟩, ?_⟩
  rintro m s ⟨k, b, σ, T, rfl, hT, hm, hk, hb⟩
  obtain ⟨J, rfl⟩ := gt_open hT
  clear hT
  refine ⟨fun hlt => ?_, fun hge => ?_⟩
  · have hf := fac_20 (n := k + 1) (by omega)
    have hf2 := fac_20 (n := k + 2) (by omega)
    have d1 := dig_18 (X := ((fac (k + 1) : Nat) : Int)) (by omega)
    have d2 := dig_20 (X := ((k + 2 : Nat) : Int)) (by omega)
    refine ⟨by omega, part1 fzI ⟨[pn (k + 2 : Nat)], rfl, ?_⟩⟩
    refine cal2 fzL (fz_own (n := 1) (c := 1) (cs' := [pn (k + 2 : Nat)]) push_cont (Nat.le_refl 1) (by decide) rfl) (rmuls_ct S (oldR_of S hS) (xs := digits (fac (k + 1) : Nat)) (ys := [((k + 2 : Nat) : Int)]) (X := (fac (k + 1) : Nat)) (Y := (k + 2 : Nat)) (Rw.of (by omega)) (Rw.one (by omega)) (by omega) (by simp) (by omega)) (by omega) ?_
    rintro _ rfl
    refine ⟨⟨by omega, by omega⟩, ?_⟩
    exact ⟨_, by omega, ci ⟨k + 1, _, _, _, rfl, ⟨rfl, rfl, by show pI _ = pI _; congr 1, by show pn _ = pn _; norm_cast, trivial⟩, rfl, .inl (by omega), by omega⟩⟩
  · refine endq rfl ?_
    show pI (fac (k + 1) : Nat) = pI (fac n : Nat)
    congr 2
    rcases hk with hk | rfl
    · rw [show n = k + 1 by omega]
    · rcases (show n = 0 ∨ n = 1 by omega) with h0 | h0
      · subst h0; rfl
      · subst h0; rfl
end Go.PI
/- FACTORIALS AND CENTRALIZERS, of the program. -/
open Go.Proofs
namespace Go.PI
open IM
set_option maxRecDepth 20000
set_option maxHeartbeats 4000000
variable (S : FuncId → Option (List AV → Heap → Option (AV × Heap)))
theorem fn103 : ctx.fn 103 = some c103 := by kernel_rfl
theorem fn54 : ctx.fn 54 = some c54 := by kernel_rfl
theorem num1_ct (hS : OldO S) {xs : List Int} {g d : Nat} {v : Int} (hg : Ct (ctx.plus S) g [pIs xs] d fun r => r = pn v) (hv : In64 v) : Ct (ctx.plus S) 103 [pIs xs, .lptr [.fn g]] (d + 12) fun r => r = pI v := by
  refine ct_of (hS 103 (by decide)) fn103 ?_
  refine ⟨_, rfl, ?_⟩
  refine callq rfl hg (by omega) ?_
  rintro _ rfl
  refine callq rfl (of_ct S (old_of S hS) (hS 78 (by decide)) hv) (by omega) ?_
  rintro _ rfl
  exact endq rfl rfl
theorem answerC_bad (hS : OldO S) {xs : List Int} {g : Nat} {cs : List PV} (hl : xs.length ≤ 1000000) (hb : ckV xs ≠ 0) : Ct (ctx.plus S) 72 [pIs xs, pn 20, .fnc g cs] 0 fun r => r = .tup [.lst 0 [], pn (ckV xs)] := by
  refine ct_of (hS 72 (by decide)) fn72 ?_
  refine callq rfl (ck_ct S hS hl) (by omega) ?_
  rintro _ rfl
  refine ⟨fun h => absurd h hb, fun _ => ?_⟩
  refine ⟨fun _ => ?_, fun h => absurd h hb⟩
  exact ⟨⟨[], rfl⟩⟩
theorem answerC_ct (hS : OldO S) {xs : List Int} {g d : Nat} {cs : List PV} {v : PV} (hc : clos cs = true) (hl : xs.length ≤ 1000000) (hb : ckV xs = 0) (hv : cloA v = true) (hg : Ct (ctx.plus S) g (pIs xs :: cs) d fun r => r = v) : Ct (ctx.plus S) 72 [pIs xs, pn 20, .fnc g cs] d fun r => r = .tup [v, pn 0] := by
  refine ct_of (hS 72 (by decide)) fn72 ?_
  refine callq rfl (ck_ct S hS hl) (by omega) ?_
  rintro _ rfl
  rw [hb]
  refine ⟨fun _ => ?_, fun h => absurd rfl h⟩
  refine callq rfl (size'_ct S hS (ckV_bd hb)) (by omega) ?_
  rintro _ rfl
  have := (ckV_ok hb).2.2.1
  refine ⟨fun h => by omega, fun _ => ?_⟩
  refine ⟨fun h => absurd rfl h, fun _ => ?_⟩
  refine callq (ps := pIs xs :: cs) (cloAs_cons rfl hc) hg (by omega) ?_
  rintro _ rfl
  exact endsq (by simp only [cloAs, hv, Bool.true_and]; rfl) rfl
open Classical in
noncomputable def numV (xs : List Int) (X : Int) : PV := if ckV xs = 0 then .tup [pI X, pn 0] else .tup [.lst 0 [], pn (ckV xs)]
end Go.PI
/- CONJUGATES OF PARTITIONS, of both. -/
open Go.Proofs
namespace Go.PI
open IM
set_option maxRecDepth 20000
set_option maxHeartbeats 4000000
variable (S : FuncId → Option (List AV → Heap → Option (AV × Heap)))
def cnt (xs : List Int) (j : Nat) : Nat := (xs.filter fun x => decide ((j : Int) < x)).length
theorem cnt_next {xs : List Int} {i j : Nat} {x : Int} (h : xs[i]? = some x) : cnt (xs.take (i + 1)) j = cnt (xs.take i) j + if (j : Int) < x then 1 else 0 := by
  unfold cnt
  rw [List.take_add_one, h, List.filter_append, List.length_append]
  congr 1
  by_cases hx : (j : Int) < x
  · rw [if_pos hx]; simp [hx]
  · rw [if_neg hx]; simp [hx]
theorem cnt_le (xs : List Int) (j : Nat) : cnt xs j ≤ xs.length := List.length_filter_le _ _
def cjl (xs : List Int) (m : Nat) : List Int := (List.range m).map fun j => ((cnt xs j : Nat) : Int)
theorem cjl_len (xs : List Int) (m : Nat) : (cjl xs m).length = m := by simp [cjl]
theorem cjl_get {xs : List Int} {m j : Nat} (h : j < m) : (cjl xs m)[j]? = some ((cnt xs j : Nat) : Int) := by simp [cjl, h]
theorem cjl_succ {xs : List Int} {m : Nat} : cjl xs (m + 1) = cjl xs m ++ [((cnt xs m : Nat) : Int)] := by simp [cjl, List.range_succ]
def hd (xs : List Int) : Nat := (xs.headD 0).toNat
theorem fn61 : ctx.fn 61 = some c61 := by kernel_rfl
theorem fn102 : ctx.fn 102 = some c102 := by kernel_rfl
theorem rconj_ct (hS : OldO S) {xs : List Int} (hf : Few xs) (hl : xs.length ≤ 40) : Ct (ctx.plus S) 61 [pIs xs] 1000 fun r => r = pIs (cjl xs (hd xs)) := by
  have hh : hd xs ≤ 100 := by
    unfold hd
    cases xs with
    | nil => decide
    | cons x xs => have := (hf.2 x List.mem_cons_self); show x.toNat ≤ 100; omega
  refine ct_of (hS 61 (by decide)) fn61 ?_
  refine ⟨fun m s => ∃ (j b : Nat) (v : PV) (σ : List StB) (T : List PV), s = ⟨T, σ, b⟩ ∧ Gt T 38 [(0, pIs xs), (3, v), (4, pn j)] ∧ m = hd xs - j ∧ j ≤ hd xs ∧ b ≤ 2 * j ∧ Hid (Gl v σ (cjl xs j)), ⟨_, ci ⟨0, 0, .nils, [], _, rfl, ⟨rfl, rfl, rfl, rfl, trivial⟩, rfl, Nat.zero_le _, Nat.le_refl _, ⟨.inl ⟨rfl, rfl⟩⟩⟩⟩, ?_⟩
  rintro m s ⟨j, b, v, σ, T, rfl, hT, hm, hj, hb, hg⟩
  obtain ⟨J, rfl⟩ := gt_open hT
  clear hT
  refine ⟨fun hpos => ?_, fun hz => ?_⟩
  · obtain ⟨x, hx⟩ := xs_get (xs := xs) (i := 0) (by omega)
    have hx0 : (hd xs : Int) = x := by
      have h1 := hf.2 x (List.mem_of_getElem? hx)
      unfold hd
      cases xs with
      | nil => simp at hx
      | cons y ys => cases hx; show ((x.toNat : Nat) : Int) = x; omega
    have hl1 : xs.length ≠ 0 := by omega
    refine ⟨⟨⟨by omega, by omega⟩, len_map_le (by omega)⟩, ?_⟩
    refine ⟨_, ld (at_map hx) (by show _ * 1 = 0; omega), ?_⟩
    refine ⟨fun hlt => ?_, fun hge => ?_⟩
    · -- a column
      refine ⟨fun m s => ∃ (i : Nat) (T : List PV), s = ⟨T, σ, b⟩ ∧ Gt T 38 [(0, pIs xs), (3, v), (4, pn j), (5, pn (cnt (xs.take i) j : Nat)), (6, pn i)] ∧ m = xs.length - i ∧ i ≤ xs.length, ⟨_, ci ⟨0, _, rfl, ⟨rfl, rfl, rfl, rfl, rfl, rfl, trivial⟩, rfl, Nat.zero_le _⟩⟩, ?_⟩
      rintro m s ⟨i, T, rfl, hT, hm2, hi⟩
      obtain ⟨J, rfl⟩ := gt_open hT
      clear hT
      refine ⟨fun hil => ?_, fun hig => ?_⟩
      · obtain ⟨y, hy⟩ := xs_get (xs := xs) (i := i) (by omega)
        have hc := cnt_le (xs.take i) j
        rw [List.length_take] at hc
        have hn := cnt_next (j := j) hy
        refine ⟨⟨⟨by omega, by omega⟩, len_map_le (by omega)⟩, ?_⟩
        refine ⟨_, ld (at_map hy) (by show _ * 1 = i; omega), ?_⟩
        refine ⟨fun hgt => ?_, fun hng => ?_⟩
        · rw [if_pos (by omega)] at hn
          refine ⟨⟨by omega, by omega⟩, ?_⟩
          refine ⟨⟨by omega, by omega⟩, ?_⟩
          exact ⟨_, by omega, ci ⟨i + 1, _, rfl, ⟨rfl, rfl, rfl, rfl, by show pn _ = pn _; rw [hn]; norm_cast, by show pn _ = pn _; norm_cast, trivial⟩, rfl, by omega⟩⟩
        · rw [if_neg (by omega)] at hn
          refine ⟨⟨by omega, by omega⟩, ?_⟩
          exact ⟨_, by omega, ci ⟨i + 1, _, rfl, ⟨rfl, rfl, rfl, rfl, by show pn _ = pn _; rw [hn]; norm_cast, by show pn _ = pn _; norm_cast, trivial⟩, rfl, by omega⟩⟩
      · have hin : i = xs.length := by omega
        subst hin
        rw [List.take_of_length_le (Nat.le_refl _)]
        refine ⟨by omega, part1 fzI ⟨[pn (cnt xs j : Nat)], rfl, ?_⟩⟩
        refine app1 S (x := ((cnt xs j : Nat) : Int)) hg.h.push push_cont (by rw [cjl_len]; omega) (by omega) fun v1 σ1 k1 hk1 hk1' hg1 => ?_
        refine ⟨⟨by omega, by omega⟩, ?_⟩
        exact ⟨_, by omega, ci ⟨j + 1, k1, v1, σ1, _, rfl, ⟨rfl, rfl, rfl, by show pn _ = pn _; norm_cast, trivial⟩, rfl, by omega, by omega, ⟨by rw [cjl_succ]; exact hg1⟩⟩⟩
    · have hjh : j = hd xs := by omega
      subst hjh
      obtain ⟨σ4, hf4⟩ := hg.h.fz
      exact endf hf4 rfl
  · have : xs = [] := List.eq_nil_of_length_eq_zero (by omega)
    subst this
    have hj0 : j = 0 := by have : hd [] = 0 := rfl; omega
    subst hj0
    obtain ⟨σ4, hf4⟩ := hg.h.fz
    exact endf hf4 rfl
def cjA (xs : List Int) (n i k : Nat) : List Int := (List.range n).map fun j => ((cnt (xs.take i) j + (if j < k then 1 else 0) : Nat) : Int)
theorem cjA_len (xs : List Int) (n i k : Nat) : (cjA xs n i k).length = n := by simp [cjA]
theorem cjA_get {xs : List Int} {n i k j : Nat} (h : j < n) : (cjA xs n i k)[j]? = some ((cnt (xs.take i) j + (if j < k then 1 else 0) : Nat) : Int) := by simp [cjA, h]
theorem cjA_put {xs : List Int} {n i k : Nat} (h : k < n) : (cjA xs n i k).set k ((cnt (xs.take i) k : Nat) + 1 : Int) = cjA xs n i (k + 1) := by
  apply List.ext_getElem?
  intro j
  by_cases hj : j < n
  · by_cases hjk : j = k
    · subst hjk
      rw [List.getElem?_set_self (by rw [cjA_len]; exact h), cjA_get h, if_pos (by omega)]
      norm_cast
    · rw [List.getElem?_set_ne (fun e => hjk e.symm), cjA_get hj, cjA_get hj]
      by_cases h1 : j < k
      · rw [if_pos h1, if_pos (by omega)]
      · rw [if_neg h1, if_neg (by omega)]
  · rw [List.getElem?_eq_none (by rw [List.length_set, cjA_len]; omega), List.getElem?_eq_none (by rw [cjA_len]; omega)]
theorem cjA_next {xs : List Int} {n i : Nat} {x : Int} (h : xs[i]? = some x) (hx : 0 ≤ x) : cjA xs n i x.toNat = cjA xs n (i + 1) 0 := by
  unfold cjA
  refine List.map_congr_left fun j _ => ?_
  rw [cnt_next h, if_neg (Nat.not_lt_zero j)]
  by_cases hj : (j : Int) < x
  · rw [if_pos hj, if_pos (by omega)]
  · rw [if_neg hj, if_neg (by omega)]
theorem cjA_zero (xs : List Int) (n : Nat) : cjA xs n 0 0 = List.replicate n 0 := by
  unfold cjA
  apply List.ext_getElem?
  intro j
  by_cases hj : j < n
  · simp [hj, cnt]
  · rw [List.getElem?_eq_none (by simp; omega), List.getElem?_eq_none (by simp; omega)]
theorem cjA_all (xs : List Int) (n : Nat) : cjA xs n xs.length 0 = cjl xs n := by
  unfold cjA cjl
  rw [List.take_of_length_le (Nat.le_refl _)]
  simp
def Dsc (xs : List Int) : Prop := ∀ x ∈ xs, 1 ≤ x ∧ x ≤ hd xs
theorem conj_ct (hS : OldO S) {xs : List Int} (hf : Few xs) (hl : xs.length ≤ 40) (hD : Dsc xs) : Ct (ctx.plus S) 102 [pIs xs] 1 fun r => r = pIs (cjl xs (hd xs)) := by
  refine ct_of (hS 102 (by decide)) fn102 ?_
  refine ⟨fun h0 => ?_, fun h0 => ?_⟩
  · have : xs = [] := List.eq_nil_of_length_eq_zero (by omega)
    subst this
    exact ⟨⟨[], rfl⟩⟩
  obtain ⟨x, hx⟩ := xs_get (xs := xs) (i := 0) (by omega)
  have hx1 := hf.2 x (List.mem_of_getElem? hx)
  have hx0 : x = (hd xs : Int) := by
    unfold hd
    cases xs with
    | nil => simp at hx
    | cons y ys => cases hx; show x = ((x.toNat : Nat) : Int); omega
  subst hx0
  refine ⟨⟨⟨by omega, by omega⟩, len_map_le (by omega)⟩, ?_⟩
  refine ⟨_, ld (at_map hx) (by show _ * 1 = 0; omega), ?_⟩
  refine ⟨by omega, ⟨by omega, by omega, by omega⟩, _, int_zero, ?_⟩
  refine ⟨fun m s => ∃ (i : Nat) (T : List PV), s = ⟨T, [.live 3 ((cjA xs (hd xs) i 0).map pn)], 1⟩ ∧ Gt T 33 [(3, .own 0 0 (hd xs) (hd xs) 1), (14, pIs xs), (15, pn xs.length), (16, pn i)] ∧ m = xs.length - i ∧ i ≤ xs.length, ⟨_, ci ⟨0, _, by rw [cjA_zero]; rfl, ⟨rfl, rfl, rfl, rfl, rfl, trivial⟩, rfl, Nat.zero_le _⟩⟩, ?_⟩
  rintro m s ⟨i, T, rfl, hT, hm, hi⟩
  obtain ⟨J, rfl⟩ := gt_open hT
  clear hT
  refine ⟨fun hlt => ?_, fun hge => ?_⟩
  · obtain ⟨y, hy⟩ := xs_get (xs := xs) (i := i) (by omega)
    have hyD := hD y (List.mem_of_getElem? hy)
    refine ⟨⟨⟨by omega, by omega⟩, len_map_le (by omega)⟩, ?_⟩
    refine ⟨_, ld (at_map hy) (by show _ * 1 = i; omega), ?_⟩
    obtain ⟨k0, hk0⟩ : ∃ k0 : Nat, y = k0 := ⟨y.toNat, by omega⟩
    subst hk0
    refine ⟨fun m s => ∃ (k : Nat) (T : List PV), s = ⟨T, [.live 3 ((cjA xs (hd xs) i k).map pn)], 1⟩ ∧ Gt T 33 [(3, .own 0 0 (hd xs) (hd xs) 1), (14, pIs xs), (15, pn xs.length), (16, pn i), (20, pn k0), (21, pn k)] ∧ m = k0 - k ∧ k ≤ k0, ⟨_, ci ⟨0, _, rfl, ⟨rfl, rfl, rfl, rfl, rfl, rfl, rfl, trivial⟩, rfl, Nat.zero_le _⟩⟩, ?_⟩
    rintro m s ⟨k, T, rfl, hT, hm2, hk⟩
    obtain ⟨J, rfl⟩ := gt_open hT
    clear hT
    refine ⟨fun hlt2 => ?_, fun hge2 => ?_⟩
    · have hkn : k < hd xs := by omega
      have hcl := cnt_le (xs.take i) k
      rw [List.length_take] at hcl
      have hgk := cjA_get (xs := xs) (i := i) (k := k) hkn
      rw [if_neg (Nat.lt_irrefl k), Nat.add_zero] at hgk
      refine ⟨⟨by omega, by omega⟩, ?_⟩
      refine ⟨_, load_k rfl rfl rfl (at_map hgk) (by show 0 + _ * 1 = k; omega), ?_⟩
      refine ⟨⟨by omega, by omega⟩, ?_⟩
      refine ⟨⟨by omega, by omega⟩, ?_⟩
      refine ⟨_, _, rfl, ⟨rfl, by rw [List.length_map, cjA_len]; show 0 + k * 1 + 1 ≤ _; omega, rfl⟩, _, int_put (j := k) (by show 0 + k * 1 = k; omega) (by rw [cjA_len]; omega), _, rfl, ?_⟩
      rw [cjA_put hkn]
      refine ⟨⟨by omega, by omega⟩, ?_⟩
      exact ⟨_, by omega, ci ⟨k + 1, _, rfl, ⟨rfl, rfl, rfl, rfl, rfl, rfl, by show pn _ = pn _; norm_cast, trivial⟩, rfl, by omega⟩⟩
    · have hkk : k = k0 := by omega
      subst hkk
      refine ⟨⟨by omega, by omega⟩, ?_⟩
      have hnx := cjA_next (n := hd xs) hy (by omega)
      rw [show ((k : Nat) : Int).toNat = k by omega] at hnx
      exact ⟨_, by omega, ci ⟨i + 1, _, by rw [← hnx], ⟨rfl, rfl, rfl, rfl, by show pn _ = pn _; norm_cast, trivial⟩, rfl, by omega⟩⟩
  · have hin : i = xs.length := by omega
    subst hin
    rw [cjA_all]
    refine endf (fz_own (n := hd xs) (c := hd xs) (cs' := (cjl xs (hd xs)).map pn) rfl (by rw [List.length_map, cjl_len]; omega) (Nat.le_refl _) (List.take_of_length_le (by rw [List.length_map, cjl_len]; omega))) ?_
    show _ = PV.lst (cjl xs (hd xs)).length _
    rw [cjl_len]
end Go.PI
/- HOOKS OF PARTITIONS, of the reference. -/
open Go.Proofs
namespace Go.PI
open IM
set_option maxRecDepth 20000
set_option maxHeartbeats 4000000
variable (S : FuncId → Option (List AV → Heap → Option (AV × Heap)))
def hk (xs : List Int) (i j : Nat) : Int := xs.getD i 0 - j + (cnt xs j : Nat) - i - 1
def hrow (xs : List Int) (i m : Nat) : List Int := (List.range m).map fun j => hk xs i j
theorem hrow_len (xs : List Int) (i m : Nat) : (hrow xs i m).length = m := by simp [hrow]
theorem hrow_succ {xs : List Int} {i m : Nat} : hrow xs i (m + 1) = hrow xs i m ++ [hk xs i m] := by simp [hrow, List.range_succ]
def hks (xs : List Int) (n : Nat) : List (List Int) := (List.range n).map fun i => hrow xs i (xs.getD i 0).toNat
theorem hks_len (xs : List Int) (n : Nat) : (hks xs n).length = n := by simp [hks]
theorem hks_succ {xs : List Int} {n : Nat} : hks xs (n + 1) = hks xs n ++ [hrow xs n (xs.getD n 0).toNat] := by simp [hks, List.range_succ]
theorem Gr.lt {α : Type} {f : α → PV} {e : TypeId} {v : PV} {σ : List StB} {Xs : List α} (h : Gr f e v σ Xs) {j : Nat} (hj : blkOf v = some j) : j < σ.length := by
  rcases h with ⟨rfl, rfl⟩ | ⟨j', ty, rfl, h⟩ | ⟨j', rfl, h⟩
  · cases hj
  · cases hj; exact contOf_lt h
  · cases hj; exact (List.getElem?_eq_some_iff.1 h).1
theorem Gr.fz3 {v : PV} {σ : List StB} {Xs : List Int} (h : Gr pn 3 v σ Xs) : ∃ σ', Fz v σ (pIs Xs) σ' ∧ ∀ j b, blkOf v ≠ some j → σ[j]? = some b → σ'[j]? = some b := by
  rcases h with ⟨rfl, rfl⟩ | ⟨j, ty, rfl, h⟩ | ⟨j, rfl, h⟩
  · exact ⟨σ, fzN, fun _ _ _ h => h⟩
  · exact ⟨_, fun K hK => ⟨ty, _, _, h, ⟨by simp, by omega⟩, by rw [List.drop_zero, List.take_of_length_le (by simp)], hK⟩, fun i b hi hb => by rw [List.getElem?_set_ne (fun e => hi (by rw [← e]; rfl))]; exact hb⟩
  · exact ⟨_, fun K hK => ⟨3, _, _, contOf_live h, ⟨by simp, fun _ => rfl⟩, by rw [List.take_of_length_le (by simp)], hK⟩, fun i b hi hb => by rw [List.getElem?_set_ne (fun e => hi (by rw [← e]; rfl))]; exact hb⟩
theorem Gr.apW' {α : Type} {f : α → PV} {e : TypeId} {v : PV} {σ : List StB} {Xs : List α} {T : List PV} {qs : List Tmp} (h : Gr f e v σ Xs) (k : ∀ j, apC T j qs) : PI.apW T qs v := by
  rcases h with ⟨rfl, rfl⟩ | ⟨j, ty, rfl, h⟩ | ⟨j, rfl, h⟩
  · trivial
  · exact k j
  · exact k j
theorem fn18 : ctx.fn 18 = some c18 := by kernel_rfl
theorem rhooks_ct (hS : OldO S) {xs : List Int} (hf : Few xs) (hl : xs.length ≤ 40) (hD : Dsc xs) : Ct (ctx.plus S) 18 [pIs xs] 10000 fun r => r = pM (hks xs xs.length) := by
  refine ctO_of ⟨fun _ => false, fun _ => false, true⟩ (hS 18 (by decide)) fn18 ?_
  refine callq rfl (rconj_ct S hS hf hl) (by omega) ?_
  rintro _ rfl
  refine ⟨fun m s => ∃ (i b : Nat) (w : PV) (σ : List StB) (T : List PV), s = ⟨T, σ, b⟩ ∧ Gt T 46 [(0, pIs xs), (3, pIs (cjl xs (hd xs))), (4, w), (5, pn i)] ∧ m = xs.length - i ∧ i ≤ xs.length ∧ b ≤ 1000 + 202 * i ∧ Hid (Gr pIs 22 w σ (hks xs i)), ⟨_, ci ⟨0, 1000, .nils, [], _, rfl, ⟨rfl, rfl, rfl, rfl, rfl, trivial⟩, rfl, Nat.zero_le _, by omega, ⟨Gr.nil⟩⟩⟩, ?_⟩
  rintro m s ⟨i, b, w, σ, T, rfl, hT, hm, hi, hb, hg⟩
  obtain ⟨J, rfl⟩ := gt_open hT
  clear hT
  refine ⟨fun hlt => ?_, fun hge => ?_⟩
  · obtain ⟨x, hx⟩ := xs_get (xs := xs) (i := i) (by omega)
    have hxf := hf.2 x (List.mem_of_getElem? hx)
    have hxD := hD x (List.mem_of_getElem? hx)
    obtain ⟨k0, hk0⟩ : ∃ k0 : Nat, x = k0 := ⟨x.toNat, by omega⟩
    subst hk0
    refine ⟨fun m s => ∃ (j b' : Nat) (v : PV) (σ' : List StB) (T : List PV), s = ⟨T, σ', b'⟩ ∧ Gt T 46 [(0, pIs xs), (3, pIs (cjl xs (hd xs))), (4, w), (5, pn i), (6, v), (7, pn j)] ∧ m = k0 - j ∧ j ≤ k0 ∧ b' ≤ b + 2 * j ∧ Hid (Gr pn 3 v σ' (hrow xs i j) ∧ (∀ q : Nat, blkOf v = some q → σ.length ≤ q) ∧ (∀ (q : Nat) (bb : StB), σ[q]? = some bb → σ'[q]? = some bb) ∧ σ.length ≤ σ'.length), ⟨_, ci ⟨0, b, .nils, σ, _, rfl, ⟨rfl, rfl, rfl, rfl, rfl, rfl, rfl, trivial⟩, rfl, Nat.zero_le _, Nat.le_refl _, ⟨Gr.nil, fun q h => (by cases h), fun _ _ h => h, Nat.le_refl _⟩⟩⟩, ?_⟩
    rintro m s ⟨j, b', v, σ', T, rfl, hT, hm2, hj, hb', hh⟩
    obtain ⟨J, rfl⟩ := gt_open hT
    clear hT
    refine ⟨⟨⟨by omega, by omega⟩, len_map_le (by omega)⟩, ?_⟩
    refine ⟨_, ld (at_map hx) (by show _ * 1 = i; omega), ?_⟩
    refine ⟨fun hlt2 => ?_, fun hge2 => ?_⟩
    · have hjn : j < hd xs := by omega
      have hcn := cnt_le xs j
      have hcl := cjl_len xs (hd xs)
      refine ⟨by kernel_rfl, ?_⟩
      refine ⟨⟨⟨by omega, by omega⟩, len_map_le (by omega)⟩, ?_⟩
      refine ⟨_, ld (at_map hx) (by show _ * 1 = i; omega), rfl, ?_⟩
      refine ⟨⟨by omega, by omega⟩, ?_⟩
      refine ⟨⟨⟨by omega, by omega⟩, len_map_le (by rw [cjl_len]; omega)⟩, ?_⟩
      refine ⟨_, ld (at_map (cjl_get hjn)) (by show _ * 1 = j; omega), rfl, ?_⟩
      refine ⟨⟨by omega, by omega⟩, ?_⟩
      refine ⟨⟨by omega, by omega⟩, ?_⟩
      refine ⟨⟨by omega, by omega⟩, ?_⟩
      have ehk : ((k0 : Nat) : Int) - (j : Nat) + (cnt xs j : Nat) - (i : Nat) - 1 = hk xs i j := by unfold hk; rw [getD_of hx]
      rw [ehk]
      refine ⟨by omega, part1 fzI ⟨[pn (hk xs i j)], rfl, ?_⟩⟩
      obtain ⟨h1, h2, h3, h4⟩ := hh.h
      refine ⟨Gr.apW' h1 fun q => by repeat (first | exact trivial | refine ⟨trivial, ?_⟩), ?_⟩
      refine appG (f := pn) (e := 3) (y := hk xs i j) h1.push push_cont rfl rfl rfl rfl (by kernel_rfl) rfl rfl (by rw [hrow_len]; omega) (by omega) fun v1 σ1 hv1 hk1 hb1 => ?_
      refine ⟨⟨by omega, by omega⟩, ?_⟩
      have hb2 : (σ' ++ [StB.live 3 [pn (hk xs i j)]]).length = σ'.length + 1 := by simp
      exact ⟨_, by omega, ci ⟨j + 1, _, v1, σ1, _, rfl, ⟨rfl, rfl, rfl, rfl, rfl, rfl, by show pn _ = pn _; norm_cast, trivial⟩, rfl, by omega, by omega, ⟨by rw [hrow_succ]; exact hv1, fun q hq => by rw [hb1, hb2] at hq; cases hq; omega, fun q bb hq => hk1 q bb (fun e => by have := h2 q e; have := (List.getElem?_eq_some_iff.1 hq).1; omega) (push_old (h3 q bb hq)), by have := hv1.lt hb1; omega⟩⟩⟩
    · have hjk : j = k0 := by omega
      subst hjk
      obtain ⟨h1, h2, h3, h4⟩ := hh.h
      obtain ⟨σ2, hf2, hf3⟩ := h1.fz3
      have hwk : ∀ q bb, blkOf w = some q → σ[q]? = some bb → σ2[q]? = some bb := fun q bb hq hb => hf3 q bb (fun e => by have := h2 q e; have := hg.h.lt hq; omega) (h3 q bb hb)
      have hgw := hg.h.keep hwk
      refine ⟨by omega, part1 hf2 ⟨[pIs (hrow xs i j)], rfl, ?_⟩⟩
      refine appG (f := pIs) (e := 22) (y := hrow xs i j) hgw.push push_cont rfl rfl rfl rfl (by kernel_rfl) rfl rfl (by rw [hks_len]; omega) (by omega) fun w1 σ1 hw1 _ _ => ?_
      refine ⟨⟨by omega, by omega⟩, ?_⟩
      have ej : (xs.getD i 0).toNat = j := by rw [getD_of hx]; omega
      exact ⟨_, by omega, ci ⟨i + 1, _, w1, σ1, _, rfl, ⟨rfl, rfl, rfl, rfl, by show pn _ = pn _; norm_cast, trivial⟩, rfl, by omega, by omega, ⟨by rw [hks_succ, ej]; exact hw1⟩⟩⟩
  · have hin : i = xs.length := by omega
    subst hin
    obtain ⟨σ4, hf4⟩ := hg.h.fz
    exact endf hf4 rfl
end Go.PI
