/- Own work of the verifier: OrDj OrDk OrDl OrCo OrDm OrDn. -/
import Derived.Test.YtoppgcfijjndfaaGreatDoorOwBF
import Derived.Test.YtoppgcfijjndfaaGreatDoorOwBB
import Derived.Test.YtoppgcfijjndfaaGreatDoorOwBE
set_option linter.all false
set_option exponentiation.threshold 3000
set_option linter.deprecated false
/- SUMS over cycles. -/
open Go.Proofs
namespace Go.PI
open IM
def sumN (h : Nat → Int) : Nat → Int
  | 0 => 0
  | k + 1 => sumN h k + h k
theorem sumN_eq {h h' : Nat → Int} : ∀ {k : Nat}, (∀ i, i < k → h i = h' i) → sumN h k = sumN h' k
  | 0, _ => rfl
  | k + 1, e => by
    show sumN h k + h k = sumN h' k + h' k
    rw [sumN_eq fun i hi => e i (by omega), e k (by omega)]
theorem sumN_plus {h h' : Nat → Int} : ∀ k, sumN (fun i => h i + h' i) k = sumN h k + sumN h' k
  | 0 => rfl
  | k + 1 => by
    show sumN (fun i => h i + h' i) k + (h k + h' k) = sumN h k + h k + (sumN h' k + h' k)
    rw [sumN_plus k]; omega
section
variable {n : Nat} {c c' : Nat → Nat}
theorem lead_of (h : IsP n c c') {x : Nat} (hx : x < n) : ∃ m, m ≤ x ∧ lead c m ∧ InC c m x := by
  obtain ⟨m, h1, h2⟩ := ex_least (P := fun y => InC c x y) ⟨x, InC.refl _ _⟩
  refine ⟨m, Nat.le_of_not_lt fun hlt => h2 x hlt (InC.refl _ _), fun y hy => ?_, h1.symm h hx⟩
  exact Nat.le_of_not_lt fun hlt => h2 y hlt (h1.trans hy)
theorem lead_one (h : IsP n c c') {x m m' : Nat} (hm : m < n) (hm' : m' < n) (l : lead c m) (l' : lead c m') (i : InC c m x) (i' : InC c m' x) : m = m' := by
  have h1 := l m' (i.trans (i'.symm h hm'))
  have h2 := l' m (i'.trans (i.symm h hm))
  omega
theorem sumN_zero {h : Nat → Int} : ∀ {k : Nat}, (∀ i, i < k → h i = 0) → sumN h k = 0
  | 0, _ => rfl
  | k + 1, e => by
    show sumN h k + h k = 0
    rw [sumN_zero fun i hi => e i (by omega), e k (by omega)]; rfl
theorem sumN_one {x : Int} {i : Nat} : ∀ {n : Nat}, i < n → sumN (fun k => if k = i then x else 0) n = x
  | 0, h => by omega
  | n + 1, h => by
    show sumN (fun k => if k = i then x else 0) n + (if n = i then x else 0) = x
    by_cases e : n = i
    · rw [if_pos e, sumN_zero fun k hk => if_neg (by omega)]; omega
    · rw [if_neg e, sumN_one (by omega)]; omega
theorem sumN_swap (H : Nat → Nat → Int) (m : Nat) : ∀ n, sumN (fun i => sumN (fun k => H i k) m) n = sumN (fun k => sumN (fun i => H i k) n) m
  | 0 => (sumN_zero fun _ _ => rfl).symm
  | n + 1 => by
    show sumN (fun i => sumN (fun k => H i k) m) n + sumN (fun k => H n k) m = sumN (fun k => sumN (fun i => H i k) n + H n k) m
    rw [sumN_swap H m n, sumN_plus]
variable {n : Nat} {c c' f f' g g' : Nat → Nat}
open Classical in
theorem cyc_sum (h : IsP n c c') {m : Nat} (hm : m < n) (x : Nat → Int) : sumN (fun t => x (it c t m)) (ordr c m) = sumN (fun k => if InC c m k then x k else 0) n := by
  obtain ⟨o1, o2, o3, o4⟩ := ordr_spec h hm
  have huniq : ∀ a b, a < b → b < ordr c m → it c a m ≠ it c b m := fun a b hab hb e => by
    have e2 : it c b m = it c a (it c (b - a) m) := by rw [← it_add]; congr 1; omega
    rw [e2] at e
    exact o4 (b - a) (by omega) (by omega) (it_inj h hm (it_lt h hm _) e).symm
  have h1 : sumN (fun t => x (it c t m)) (ordr c m) = sumN (fun t => sumN (fun k => if k = it c t m then x k else 0) n) (ordr c m) := sumN_eq fun t ht => by
    rw [show (fun k => if k = it c t m then x k else 0) = fun k => if k = it c t m then x (it c t m) else 0 from funext fun k => by by_cases e : k = it c t m; rw [if_pos e, if_pos e, e]; rw [if_neg e, if_neg e], sumN_one (it_lt h hm t)]
  rw [h1, sumN_swap]
  refine sumN_eq fun k hk => ?_
  by_cases hi : InC c m k
  · rw [if_pos hi]
    have hmem : (k : Int) ∈ cyc c m := (mem_cyc h hm).2 ⟨k, rfl, hi⟩
    obtain ⟨q, hq, he⟩ := List.mem_map.1 hmem
    have hq := List.mem_range.1 hq
    have he : it c q m = k := by omega
    have : sumN (fun t => if k = it c t m then x k else 0) (ordr c m) = sumN (fun t => if t = q then x k else 0) (ordr c m) := sumN_eq fun t ht => by
      by_cases e : t = q
      · rw [if_pos e, if_pos (by rw [e, he])]
      · rw [if_neg e, if_neg]
        intro e2
        rw [← he] at e2
        rcases Nat.lt_or_gt_of_ne e with a | a
        · exact huniq t q a hq e2.symm
        · exact huniq q t a ht e2
    rw [this, sumN_one hq]
  · rw [if_neg hi]
    exact sumN_zero fun t ht => if_neg fun e => hi ⟨t, e.symm⟩
open Classical in
theorem all_sum (h : IsP n c c') (x : Nat → Int) : sumN (fun i => if lead c i then sumN (fun t => x (it c t i)) (ordr c i) else 0) n = sumN x n := by
  have h1 : sumN (fun i => if lead c i then sumN (fun t => x (it c t i)) (ordr c i) else 0) n = sumN (fun i => sumN (fun k => if lead c i ∧ InC c i k then x k else 0) n) n := sumN_eq fun i hi => by
    by_cases hl : lead c i
    · rw [if_pos hl, cyc_sum h hi]
      refine sumN_eq fun k hk => ?_
      by_cases e : InC c i k
      · rw [if_pos e, if_pos ⟨hl, e⟩]
      · rw [if_neg e, if_neg (fun e2 => e e2.2)]
    · rw [if_neg hl]
      exact (sumN_zero fun k hk => if_neg fun e => hl e.1).symm
  rw [h1, sumN_swap]
  refine sumN_eq fun k hk => ?_
  obtain ⟨m, m1, m2, m3⟩ := lead_of h hk
  have : sumN (fun i => if lead c i ∧ InC c i k then x k else 0) n = sumN (fun i => if i = m then x k else 0) n := sumN_eq fun i hi => by
    by_cases e : i = m
    · rw [if_pos e, if_pos (by rw [e]; exact ⟨m2, m3⟩)]
    · rw [if_neg e, if_neg]
      rintro ⟨a, b⟩
      exact e (lead_one h hi (by omega) a m2 b m3)
  rw [this, sumN_one (by omega)]
end
def wsum (A : List (List Int)) : Nat := (A.map fun l => l.length).sum
theorem wsum_app {A B : List (List Int)} : wsum (A ++ B) = wsum A + wsum B := by simp [wsum]
open Classical in
theorem wsum_le {x y : Nat → Nat} : ∀ k, (wsum (cuL x y (prN x k)) : Int) ≤ sumN (fun i => if lead (cuF x y) i then (ordr (cuF x y) i : Int) else 0) k
  | 0 => by simp [prN, cuL, wsum, sumN]
  | k + 1 => by
    have ih := wsum_le (x := x) (y := y) k
    show _ ≤ sumN _ k + (if lead (cuF x y) k then (ordr (cuF x y) k : Int) else 0)
    by_cases hr : lz x k = k
    · rw [prN_yes hr]
      have e : cuL x y (prN x k ++ [(k : Int)]) = cuL x y (prN x k) ++ cuL x y [(k : Int)] := by simp [cuL]
      rw [e, wsum_app]
      by_cases hl : lead (cuF x y) k
      · have e2 : wsum (cuL x y [(k : Int)]) = ordr (cuF x y) k := by simp [cuL, wsum, hl, cyc_len]
        rw [e2, if_pos hl]
        omega
      · have e2 : wsum (cuL x y [(k : Int)]) = 0 := by simp [cuL, wsum, hl]
        rw [e2, if_neg hl]
        omega
    · rw [prN_no hr]
      split <;> omega
open Classical in
theorem XY.wsum {N : Nat} {x y : Nat → Nat} (h : XY N x y) : wsum (cuL x y (prN x N)) ≤ N := by
  obtain ⟨c', hc⟩ := h.perm
  have h1 := wsum_le (x := x) (y := y) N
  have h2 := all_sum hc fun _ => 1
  have one : ∀ k, sumN (fun _ => (1 : Int)) k = k := fun k => by
    induction k with
    | zero => rfl
    | succ k ih => show sumN _ k + 1 = _; rw [ih]; omega
  have h3 : sumN (fun i => if lead (cuF x y) i then (ordr (cuF x y) i : Int) else 0) N = N := by
    rw [← one N, ← h2]
    exact sumN_eq fun i _ => by
      split
      · rw [one]
      · rfl
  omega
end Go.PI
/- THE LEVEL, of both. -/
open Go.Proofs
namespace Go.PI
open IM
set_option maxRecDepth 20000
set_option maxHeartbeats 4000000
variable (S : FuncId → Option (List AV → Heap → Option (AV × Heap)))
theorem rmod_nat {a b : Nat} : (a : Int).tmod b = ((a % b : Nat) : Int) := by
  rw [Int.tmod_eq_emod_of_nonneg (by omega)]
  norm_cast
theorem fn157 : ctx.fn 157 = some c157 := by kernel_rfl
theorem gcd_ct (hS : OldO S) {p q : Nat} (hp : p ≤ 1000000000000000) (hq : q ≤ 1000000000000000) : Ct (ctx.plus S) 157 [pn p, pn q] 0 fun v => v = pn (Nat.gcd p q : Nat) := by
  refine ct_of (hS 157 (by decide)) fn157 ?_
  refine ⟨fun m s => ∃ (a b : Nat) (T : List PV), s = ⟨T, [], 0⟩ ∧ Gt T 12 [(0, pn a), (1, pn b)] ∧ m = b ∧ a ≤ 1000000000000000 ∧ b ≤ 1000000000000000 ∧ Hid (Nat.gcd a b = Nat.gcd p q), ⟨_, ci ⟨p, q, _, rfl, ⟨rfl, rfl, rfl, trivial⟩, rfl, hp, hq, ⟨rfl⟩⟩⟩, ?_⟩
  rintro m s ⟨a, b, T, rfl, hT, hm, ha, hb, hg⟩
  obtain ⟨J, rfl⟩ := gt_open hT
  clear hT
  refine ⟨fun hne => ?_, fun heq => ?_⟩
  · have hb0 : 0 < b := by omega
    have hlt : a % b < b := Nat.mod_lt _ hb0
    refine ⟨by kernel_rfl, ?_⟩
    refine ⟨by omega, ?_⟩
    refine ⟨_, by omega, ci ⟨b, a % b, _, rfl, ⟨rfl, rfl, by show pn _ = pn _; rw [rmod_nat], trivial⟩, rfl, hb, by omega, ⟨by rw [← hg.h, Nat.gcd_comm b, ← Nat.gcd_rec, Nat.gcd_comm]⟩⟩⟩
  · have h0 : b = 0 := by omega
    subst h0
    have := hg.h
    rw [Nat.gcd_zero_right] at this
    exact endq rfl (by rw [← this]; rfl)
theorem fn79' : ctx.fn 79 = some c79 := by kernel_rfl
theorem abs0_ct (hS : OldO S) {a : Nat} (ha : a ≤ 1000000000000000) : Ct (ctx.plus S) 79 [pn a] 0 fun v => v = pn (a : Nat) := by
  refine ct_of (hS 79 (by decide)) fn79' ?_
  refine ⟨fun h => by omega, fun h => ?_⟩
  exact endq rfl rfl
theorem fn105 : ctx.fn 105 = some c105 := by kernel_rfl
theorem rgcd_ct (hS : OldO S) {p q : Nat} (hp : p ≤ 1000000000000000) (hq : q ≤ 1000000000000000) : Ct (ctx.plus S) 105 [pn p, pn q] 0 fun v => v = pn (Nat.gcd p q : Nat) := by
  refine ct_of (hS 105 (by decide)) fn105 ?_
  refine callq rfl (abs0_ct S hS hp) (by omega) ?_
  rintro _ rfl
  refine callq rfl (abs0_ct S hS hq) (by omega) ?_
  rintro _ rfl
  refine ⟨fun m s => ∃ (a b : Nat) (T : List PV), s = ⟨T, [], 0⟩ ∧ Gt T 16 [(0, pn a), (1, pn b)] ∧ m = b ∧ a ≤ 1000000000000000 ∧ b ≤ 1000000000000000 ∧ Hid (Nat.gcd a b = Nat.gcd p q), ⟨_, ci ⟨p, q, _, rfl, ⟨rfl, rfl, rfl, trivial⟩, rfl, hp, hq, ⟨rfl⟩⟩⟩, ?_⟩
  rintro m s ⟨a, b, T, rfl, hT, hm, ha, hb, hg⟩
  obtain ⟨J, rfl⟩ := gt_open hT
  clear hT
  refine ⟨fun hne => ?_, fun heq => ?_⟩
  · have hb0 : 0 < b := by omega
    have hlt : a % b < b := Nat.mod_lt _ hb0
    refine ⟨by kernel_rfl, ?_⟩
    refine ⟨by omega, ?_⟩
    refine ⟨_, by omega, ci ⟨b, a % b, _, rfl, ⟨rfl, rfl, by show pn _ = pn _; rw [rmod_nat], trivial⟩, rfl, hb, by omega, ⟨by rw [← hg.h, Nat.gcd_comm b, ← Nat.gcd_rec, Nat.gcd_comm]⟩⟩⟩
  · have h0 : b = 0 := by omega
    subst h0
    have := hg.h
    rw [Nat.gcd_zero_right] at this
    exact endq rfl (by rw [← this]; rfl)
def lvl (A : List (List Int)) : Nat := A.foldl (fun n l => n * (l.length / Nat.gcd n l.length)) 1
theorem lvl_next {A : List (List Int)} {i : Nat} {l : List Int} (h : A[i]? = some l) : lvl (A.take (i + 1)) = lvl (A.take i) * (l.length / Nat.gcd (lvl (A.take i)) l.length) := by
  unfold lvl
  rw [List.take_add_one, h, List.foldl_append]
  rfl
theorem wsum_next {A : List (List Int)} {i : Nat} {l : List Int} (h : A[i]? = some l) : wsum (A.take (i + 1)) = wsum (A.take i) + l.length := by
  rw [List.take_add_one, h, wsum_app]
  simp [wsum]
theorem lvl_le {A : List (List Int)} : ∀ {i}, i ≤ A.length → lvl (A.take i) ≤ 2 ^ wsum (A.take i)
  | 0, _ => by simp [lvl]; exact Nat.one_le_two_pow
  | i + 1, hi => by
    obtain ⟨l, hl⟩ : ∃ l, A[i]? = some l := ⟨_, List.getElem?_eq_getElem (by omega)⟩
    have ih := lvl_le (A := A) (i := i) (by omega)
    rw [lvl_next hl, wsum_next hl, Nat.pow_add]
    exact Nat.mul_le_mul ih (Nat.le_trans (Nat.div_le_self _ _) (Nat.le_of_lt Nat.lt_two_pow_self))
theorem lvl_pos {A : List (List Int)} (h0 : ∀ l ∈ A, 0 < l.length) : ∀ {i}, i ≤ A.length → 0 < lvl (A.take i)
  | 0, _ => by simp [lvl]
  | i + 1, hi => by
    obtain ⟨l, hl⟩ : ∃ l, A[i]? = some l := ⟨_, List.getElem?_eq_getElem (by omega)⟩
    have ih := lvl_pos h0 (i := i) (by omega)
    have hp := h0 l (List.mem_of_getElem? hl)
    rw [lvl_next hl]
    exact Nat.mul_pos ih (Nat.div_pos (Nat.le_of_dvd hp (Nat.gcd_dvd_right _ _)) (Nat.gcd_pos_of_pos_left _ ih))
theorem wsum_mono {A : List (List Int)} {i : Nat} : wsum (A.take i) ≤ wsum A := by
  have : A = A.take i ++ A.drop i := (List.take_append_drop i A).symm
  conv => rhs; rw [this]
  rw [wsum_app]
  omega
end Go.PI
/- THE LEVEL, of both: the walks. -/
open Go.Proofs
namespace Go.PI
open IM
set_option maxRecDepth 20000
set_option maxHeartbeats 4000000
variable (S : FuncId → Option (List AV → Heap → Option (AV × Heap)))
theorem tdiv_nat {a b : Nat} : (a : Int).tdiv b = ((a / b : Nat) : Int) := by
  rw [Int.tdiv_eq_ediv_of_nonneg (by omega)]
  norm_cast
theorem gcd_move {n w : Nat} : n / Nat.gcd n w * w = n * (w / Nat.gcd n w) := by
  rw [Nat.div_mul_right_comm (Nat.gcd_dvd_left n w), Nat.mul_div_assoc _ (Nat.gcd_dvd_right n w)]
theorem in64_nat {a : Nat} (h : a < 9223372036854775808) : In64 (a : Int) := by unfold In64; omega
theorem two30 {k : Nat} (h : k ≤ 30) : 2 ^ k ≤ 1073741824 := Nat.le_trans (Nat.pow_le_pow_right (by decide) h) (by decide)
theorem fn102 : ctx.fn 102 = some c102 := by kernel_rfl
theorem level_ct (hS : OldO S) {A : List (List Int)} (hA : A.length ≤ 2000) (h0 : ∀ l ∈ A, 0 < l.length) (hw : wsum A ≤ 30) (hm : ∀ l ∈ A, l.length ≤ 2000) : Ct (ctx.plus S) 102 [pK A] 10000 fun v => v = .tup [pn (lvl A : Nat), pn 0] := by
  have hfl := flK_len (Ls := A)
  have hb : ∀ i, i ≤ A.length → lvl (A.take i) ≤ 1073741824 := fun i hi => Nat.le_trans (lvl_le hi) (two30 (Nat.le_trans wsum_mono hw))
  have hp : ∀ i, i ≤ A.length → 0 < lvl (A.take i) := fun i hi => lvl_pos h0 hi
  refine ct_of (hS 102 (by decide)) fn102 ?_
  refine ⟨fun m s => ∃ (i b : Nat) (σ : List StB) (T : List PV), s = ⟨T, σ, b⟩ ∧ Gt T 26 [(4, pn (lvl (A.take i) : Nat)), (7, pK A), (8, pn A.length), (9, pn i)] ∧ m = A.length - i ∧ i ≤ A.length ∧ b ≤ 2 * i, ⟨_, ci ⟨0, _, _, _, rfl, ⟨rfl, rfl, rfl, rfl, rfl, trivial⟩, rfl, Nat.zero_le _, by omega⟩⟩, ?_⟩
  rintro _ s ⟨i, b, σ, T, rfl, hT, rfl, hi, hbb⟩
  obtain ⟨J, rfl⟩ := gt_open hT
  clear hT
  refine ⟨fun hlt => ?_, fun hge => ?_⟩
  · have hil : i < A.length := by have h : (i : Int) < (A.length : Nat) := hlt; omega
    obtain ⟨l, hl⟩ : ∃ l, A[i]? = some l := ⟨_, List.getElem?_eq_getElem hil⟩
    obtain ⟨rest, hr⟩ := flK_drop hl
    have hlm := List.mem_of_getElem? hl
    have hll := hm l hlm
    have hl0 := h0 l hlm
    have kp : ∀ q, q = 2 * i → partP t109 ((flK A).drop q) 0 = some (.agg [pn l.length, pIs l]) := fun q hq => by
      rw [hq, hr]
      show (if 0 + 2 ≤ (pn l.length :: pIs l :: rest).length then some (PV.agg (((pn l.length :: pIs l :: rest).drop 0).take 2)) else none) = _
      rw [if_pos (by simp)]
      rfl
    have hnx := lvl_next hl
    have hbi := hb i hi
    have hbn := hb (i + 1) hil
    have hpi := hp i hi
    rw [hnx] at hbn
    generalize lvl (A.take i) = n at hnx hbi hbn hpi ⊢
    have hg : 0 < Nat.gcd n l.length := Nat.gcd_pos_of_pos_left _ hpi
    have hd : l.length / Nat.gcd n l.length ≤ l.length := Nat.div_le_self _ _
    have e0 : ((l.length : Nat) : Int).tdiv (Nat.gcd n l.length : Nat) = ((l.length / Nat.gcd n l.length : Nat) : Int) := tdiv_nat
    have e1 : (n : Int) * ((l.length / Nat.gcd n l.length : Nat) : Int) = ((n * (l.length / Nat.gcd n l.length) : Nat) : Int) := by norm_cast
    refine ⟨⟨⟨by omega, by show (i : Int) < (A.length : Nat); omega⟩, by show (i : Int).toNat * 2 ≤ _; omega⟩, ?_⟩
    refine ⟨_, kp _ (by show (i : Int).toNat * 2 = _; omega), ?_⟩
    refine ⟨by omega, ?_⟩
    refine ⟨_, _, push_get, ⟨rfl, Nat.le_of_ble_eq_true rfl, rfl⟩, _, rfl, _, push_set, ?_⟩
    refine ⟨by kernel_rfl, ?_⟩
    refine ⟨_, load_k rfl rfl push_cont (show [pn (l.length : Nat), pIs l][0]? = some (pn l.length) from rfl) rfl, rfl, ?_⟩
    refine ⟨_, load_k rfl rfl push_cont (show [pn (l.length : Nat), pIs l][0]? = some (pn l.length) from rfl) rfl, rfl, ?_⟩
    refine callq rfl (gcd_ct S hS (by omega) (by omega)) (by omega) ?_
    rintro _ rfl
    refine ⟨⟨by omega, by rw [e0]; exact in64_nat (Nat.lt_of_le_of_lt hd (by omega))⟩, ?_⟩
    refine ⟨⟨by rw [e0, e1]; omega, by rw [e0, e1]; omega⟩, ?_⟩
    refine ⟨fun h => ?_, fun h => ?_⟩
    · exfalso
      have h : (n : Int) * (((l.length : Nat) : Int).tdiv (Nat.gcd n l.length : Nat)) > 1000000000000000 := h
      rw [e0, e1] at h
      omega
    refine ⟨⟨by omega, by omega⟩, ?_⟩
    exact ⟨_, by omega, ci ⟨i + 1, _, _, _, rfl, ⟨rfl, by rw [hnx]; show pn ((n : Int) * (((l.length : Nat) : Int).tdiv (Nat.gcd n l.length : Nat))) = _; rw [e0, e1], rfl, rfl, rfl, trivial⟩, rfl, by omega, by omega⟩⟩
  · have hie : i = A.length := by have h : ((A.length : Nat) : Int) ≤ i := hge; omega
    subst hie
    rw [List.take_length]
    exact endsq rfl rfl
theorem fn52 : ctx.fn 52 = some c52 := by kernel_rfl
theorem rlevel_ct (hS : OldO S) {L : OL} {X Y : List Int} {A : List (List Int)} (hc : Ct (ctx.plus S) 50 [pB L X Y] 30000000 fun v => v = pK A) (hA : A.length ≤ 2000) (h0 : ∀ l ∈ A, 0 < l.length) (hw : wsum A ≤ 30) (hm : ∀ l ∈ A, l.length ≤ 2000) : Ct (ctx.plus S) 52 [pB L X Y] 40000000 fun v => v = pn (lvl A : Nat) := by
  have hfl := flK_len (Ls := A)
  have hb : ∀ i, i ≤ A.length → lvl (A.take i) ≤ 1073741824 := fun i hi => Nat.le_trans (lvl_le hi) (two30 (Nat.le_trans wsum_mono hw))
  have hp : ∀ i, i ≤ A.length → 0 < lvl (A.take i) := fun i hi => lvl_pos h0 hi
  refine ct_of (hS 52 (by decide)) fn52 ?_
  refine ⟨by omega, ?_⟩
  refine ⟨_, rfl, ?_⟩
  refine callq rfl hc (by omega) ?_
  rintro _ rfl
  refine ⟨fun m s => ∃ (i b : Nat) (σ : List StB) (T : List PV), s = ⟨T, σ, b⟩ ∧ Gt T 30 [(3, pn (lvl (A.take i) : Nat)), (4, pK A), (5, pn i)] ∧ m = A.length - i ∧ i ≤ A.length ∧ b ≤ 30000010, ⟨_, ci ⟨0, _, _, _, rfl, ⟨rfl, rfl, rfl, rfl, trivial⟩, rfl, Nat.zero_le _, by omega⟩⟩, ?_⟩
  rintro _ s ⟨i, b, σ, T, rfl, hT, rfl, hi, hbb⟩
  obtain ⟨J, rfl⟩ := gt_open hT
  clear hT
  refine ⟨fun hlt => ?_, fun hge => ?_⟩
  · have hil : i < A.length := by have h : (i : Int) < (A.length : Nat) := hlt; omega
    obtain ⟨l, hl⟩ : ∃ l, A[i]? = some l := ⟨_, List.getElem?_eq_getElem hil⟩
    obtain ⟨rest, hr⟩ := flK_drop hl
    have hlm := List.mem_of_getElem? hl
    have hll := hm l hlm
    have hl0 := h0 l hlm
    have k0 : ∀ q, q = 2 * i → (((flK A).drop q).drop 0)[0]? = some (pn l.length) := fun q hq => by rw [hq, hr]; rfl
    have hnx := lvl_next hl
    have hbi := hb i hi
    have hbn := hb (i + 1) hil
    have hpi := hp i hi
    rw [hnx] at hbn
    generalize lvl (A.take i) = n at hnx hbi hbn hpi ⊢
    have hg : 0 < Nat.gcd n l.length := Nat.gcd_pos_of_pos_left _ hpi
    have hd : n / Nat.gcd n l.length ≤ n := Nat.div_le_self _ _
    have e0 : (n : Int).tdiv (Nat.gcd n l.length : Nat) = ((n / Nat.gcd n l.length : Nat) : Int) := tdiv_nat
    have e1 : ((n / Nat.gcd n l.length : Nat) : Int) * ((l.length : Nat) : Int) = ((n * (l.length / Nat.gcd n l.length) : Nat) : Int) := by rw [← gcd_move]; norm_cast
    refine ⟨by kernel_rfl, ?_⟩
    refine ⟨⟨⟨by omega, by show (i : Int) < (A.length : Nat); omega⟩, by show (i : Int).toNat * 2 ≤ _; omega⟩, ?_⟩
    refine ⟨Nat.zero_le _, ?_⟩
    refine ⟨_, k0 _ (by show (i : Int).toNat * 2 = _; omega), rfl, ?_⟩
    refine callq rfl (rgcd_ct S hS (by omega) (by omega)) (by omega) ?_
    rintro _ rfl
    refine ⟨⟨by omega, by rw [e0]; exact in64_nat (Nat.lt_of_le_of_lt hd (by omega))⟩, ?_⟩
    refine ⟨⟨⟨by omega, by show (i : Int) < (A.length : Nat); omega⟩, by show (i : Int).toNat * 2 ≤ _; omega⟩, ?_⟩
    refine ⟨Nat.zero_le _, ?_⟩
    refine ⟨_, k0 _ (by show (i : Int).toNat * 2 = _; omega), rfl, ?_⟩
    refine ⟨⟨by rw [e0, e1]; omega, by rw [e0, e1]; omega⟩, ?_⟩
    refine ⟨⟨by omega, by omega⟩, ?_⟩
    exact ⟨_, by omega, ci ⟨i + 1, _, _, _, rfl, ⟨rfl, by rw [hnx]; show pn ((n : Int).tdiv (Nat.gcd n l.length : Nat) * ((l.length : Nat) : Int)) = _; rw [e0, e1], rfl, rfl, trivial⟩, rfl, by omega, by omega⟩⟩
  · have hie : i = A.length := by have h : ((A.length : Nat) : Int) ≤ i := hge; omega
    subst hie
    rw [List.take_length]
    exact endq rfl rfl
end Go.PI
/- THE LAW OF ORBITS THAT ARE GIVEN. -/
open Go.Proofs
namespace Go.PI
open IM
set_option maxRecDepth 10000
set_option maxHeartbeats 4000000
variable (S : FuncId → Option (List AV → Heap → Option (AV × Heap)))
end Go.PI
/- CURVES: the functions that the law calls. -/
open Go.Proofs
namespace Go.PI
open IM
set_option maxRecDepth 20000
set_option maxHeartbeats 4000000
variable (S : FuncId → Option (List AV → Heap → Option (AV × Heap)))
section
variable {L : OL} {X Y : List Int}
theorem fn51 : ctx.fn 51 = some c51 := by kernel_rfl
theorem rgenus_ct (hS : OldO S) (hx : XY L.length (ixN X) (ixN Y)) (hX : ∀ w, w < L.length → X[w]? = some (ixN X w : Int) ∧ ixN X w < L.length) (hY : ∀ w, w < L.length → Y[w]? = some (ixN Y w : Int) ∧ ixN Y w < L.length) (hl : X.length = L.length) (hl2 : Y.length = L.length) (hL : L.length ≤ 2000) :
    Ct (ctx.plus S) 51 [pB L X Y] 40000000 fun v => v = pn (genZ (prN (ixN X) L.length).length (ell2 X (prN (ixN X) L.length)) (ell3 X Y (prN (ixN X) L.length)) (cuL (ixN X) (ixN Y) (prN (ixN X) L.length)).length) := by
  have he := relliptic_ct S hS (X := X) (Y := Y) hX hY hl hl2 hL
  have hp := rpairs_ct S hS (X := X) (Y := Y) hX hl hL
  have hc := rcusps_ct S hS hx hX hY hl hl2 hL
  have b1 : (prN (ixN X) L.length).length ≤ L.length := prN_len
  have b2 : ell2 X (prN (ixN X) L.length) ≤ (prN (ixN X) L.length).length := cntF_le
  have b3 : ell3 X Y (prN (ixN X) L.length) ≤ (prN (ixN X) L.length).length := cntF_le
  have b4 : (cuL (ixN X) (ixN Y) (prN (ixN X) L.length)).length ≤ (prN (ixN X) L.length).length := by
    unfold cuL
    rw [List.length_map]
    exact List.length_filter_le _ _
  generalize ell2 X (prN (ixN X) L.length) = two at *
  generalize ell3 X Y (prN (ixN X) L.length) = three at *
  generalize cuL (ixN X) (ixN Y) (prN (ixN X) L.length) = C at *
  generalize prN (ixN X) L.length = P at *
  refine ct_of (hS 51 (by decide)) fn51 ?_
  refine ⟨by omega, ?_⟩
  refine ⟨_, rfl, ?_⟩
  refine callq rfl he (by omega) ?_
  rintro _ rfl
  refine ⟨by kernel_rfl, ?_⟩
  refine ⟨_, rfl, rfl, ?_⟩
  refine callq rfl hp (by omega) ?_
  rintro _ rfl
  refine ⟨⟨by omega, by omega⟩, ?_⟩
  refine ⟨⟨by omega, by omega⟩, ?_⟩
  refine ⟨⟨by omega, by omega⟩, ?_⟩
  refine ⟨⟨by omega, by omega⟩, ?_⟩
  refine ⟨_, rfl, rfl, ?_⟩
  refine callq rfl hc (by omega) ?_
  rintro _ rfl
  have hz : ((((P.length : Int) - 3 * two - 4 * three - 6 * C.length).tdiv 12)).natAbs ≤ ((P.length : Int) - 3 * two - 4 * three - 6 * C.length).natAbs := by
    rw [Int.natAbs_tdiv]; exact Nat.div_le_self _ _
  refine ⟨⟨by omega, by omega⟩, ?_⟩
  refine ⟨⟨by omega, by omega⟩, ?_⟩
  refine ⟨⟨by decide, by unfold In64; omega⟩, ?_⟩
  refine ⟨⟨by omega, by omega⟩, ?_⟩
  exact endq rfl rfl
theorem ans_zero {n : Nat} {o : Nat → O4} (hG : ¬ Bad0 L X Y → (∀ i, i < L.length → okM L i = 0) → AllOk L n o) (h : Ans L X Y n o 0) : Orb L X Y n o := by
  unfold Ans Ans2 at h
  rcases h with ⟨-, h⟩ | ⟨-, i, -, h1, -, h2⟩ | ⟨hB, hall, h⟩
  · cases h
  · exact absurd h2.symm h1
  · rcases h with ⟨-, h⟩ | ⟨-, -, h⟩ | ⟨-, -, -, h⟩ | ⟨⟨rx, ry⟩, hI, -, -⟩
    · cases h
    · cases h
    · cases h
    · unfold Bad0 at hB
      exact ⟨hG hB hall, hall, by omega, by omega, rx, ry, hI⟩
theorem cu_facts {N : Nat} {x y : Nat → Nat} (hx : XY N x y) (hN : N ≤ 30) : (cuL x y (prN x N)).length ≤ 2000 ∧ (∀ l ∈ cuL x y (prN x N), 0 < l.length) ∧ wsum (cuL x y (prN x N)) ≤ 30 ∧ ∀ l ∈ cuL x y (prN x N), l.length ≤ 2000 := by
  obtain ⟨c', hc⟩ := hx.perm
  have hpl := prN_len (x := x) (k := N)
  have hmem : ∀ l ∈ cuL x y (prN x N), ∃ m : Nat, m < N ∧ l = cyc (cuF x y) m := fun l hl => by
    unfold cuL at hl
    obtain ⟨a, ha, rfl⟩ := List.mem_map.1 hl
    obtain ⟨m, rfl, hm, -⟩ := prN_mem.1 (List.mem_filter.1 ha).1
    exact ⟨m, hm, rfl⟩
  refine ⟨?_, fun l hl => ?_, Nat.le_trans hx.wsum hN, fun l hl => ?_⟩
  · unfold cuL
    rw [List.length_map]
    exact Nat.le_trans (List.length_filter_le _ _) (by omega)
  · obtain ⟨m, hm, rfl⟩ := hmem l hl
    rw [cyc_len]
    exact (ordr_spec hc hm).1
  · obtain ⟨m, hm, rfl⟩ := hmem l hl
    rw [cyc_len]
    have := (ordr_spec hc hm).2.2.1
    omega
theorem fn44 : ctx.fn 44 = some c44 := by kernel_rfl
theorem pCusps_ct (hS : OldO S) (hM : MulOk S) {n : Nat} {o : Nat → O4} (hs : Sml L X Y) (hG : ¬ Bad0 L X Y → (∀ i, i < L.length → okM L i = 0) → AllOk L n o) :
    Ct (ctx.plus S) 44 [pB L X Y] 500000000 fun v => ∃ e : Int, Ans L X Y n o e ∧ ((e ≠ 0 ∧ v = .tup [.lst 0 [], pn e]) ∨ (e = 0 ∧ v = .tup [pK (cuL (ixN X) (ixN Y) (prN (ixN X) L.length)), pn 0])) := by
  have hL := hs.l
  refine ct_of (hS 44 (by decide)) fn44 ?_
  refine ⟨by omega, ?_⟩
  refine ⟨_, rfl, ?_⟩
  refine callq rfl (pCheckOrbit_ct S hS hM hs hG) (by omega) ?_
  rintro _ ⟨e, rfl, he⟩
  refine ⟨fun h => ?_, fun h => ?_⟩
  · exact ⟨⟨[], ⟨e, he, .inl ⟨h, rfl⟩⟩⟩⟩
  have h : e = 0 := h
  subst h
  have ho := ans_zero hG he
  have hx := ho.xy
  have hX := fun w (hw : w < L.length) => ix_at ho.xl ho.rx hw
  have hY := fun w (hw : w < L.length) => ix_at ho.yl ho.ry hw
  refine ⟨_, rfl, ?_⟩
  refine callq rfl (cusps_ct S hS hx hX hY ho.xl ho.yl (by omega)) (by omega) ?_
  rintro _ rfl
  exact endsq rfl ⟨0, he, .inr ⟨rfl, rfl⟩⟩
theorem fn45 : ctx.fn 45 = some c45 := by kernel_rfl
theorem pElliptic_ct (hS : OldO S) (hM : MulOk S) {n : Nat} {o : Nat → O4} (hs : Sml L X Y) (hG : ¬ Bad0 L X Y → (∀ i, i < L.length → okM L i = 0) → AllOk L n o) :
    Ct (ctx.plus S) 45 [pB L X Y] 500000000 fun v => ∃ e : Int, Ans L X Y n o e ∧ ((e ≠ 0 ∧ v = .tup [pn 0, pn 0, pn e]) ∨ (e = 0 ∧ v = .tup [pn (ell2 X (prN (ixN X) L.length)), pn (ell3 X Y (prN (ixN X) L.length)), pn 0])) := by
  have hL := hs.l
  refine ct_of (hS 45 (by decide)) fn45 ?_
  refine ⟨by omega, ?_⟩
  refine ⟨_, rfl, ?_⟩
  refine callq rfl (pCheckOrbit_ct S hS hM hs hG) (by omega) ?_
  rintro _ ⟨e, rfl, he⟩
  refine ⟨fun h => ?_, fun h => ?_⟩
  · exact endsq rfl ⟨e, he, .inl ⟨h, rfl⟩⟩
  have h : e = 0 := h
  subst h
  have ho := ans_zero hG he
  have hx := ho.xy
  have hX := fun w (hw : w < L.length) => ix_at ho.xl ho.rx hw
  have hY := fun w (hw : w < L.length) => ix_at ho.yl ho.ry hw
  refine ⟨_, rfl, ?_⟩
  refine callq rfl (elliptic_ct S hS hX hY ho.xl ho.yl (by omega)) (by omega) ?_
  rintro _ rfl
  exact endsq rfl ⟨0, he, .inr ⟨rfl, rfl⟩⟩
theorem fn46 : ctx.fn 46 = some c46 := by kernel_rfl
theorem pGenus_ct (hS : OldO S) (hM : MulOk S) {n : Nat} {o : Nat → O4} (hs : Sml L X Y) (hG : ¬ Bad0 L X Y → (∀ i, i < L.length → okM L i = 0) → AllOk L n o) :
    Ct (ctx.plus S) 46 [pB L X Y] 500000000 fun v => ∃ e : Int, Ans L X Y n o e ∧ ((e ≠ 0 ∧ v = .tup [pn 0, pn e]) ∨ (e = 0 ∧ v = .tup [pn (genZ (prN (ixN X) L.length).length (ell2 X (prN (ixN X) L.length)) (ell3 X Y (prN (ixN X) L.length)) (cuL (ixN X) (ixN Y) (prN (ixN X) L.length)).length), pn 0])) := by
  have hL := hs.l
  refine ct_of (hS 46 (by decide)) fn46 ?_
  refine ⟨by omega, ?_⟩
  refine ⟨_, rfl, ?_⟩
  refine callq rfl (pCheckOrbit_ct S hS hM hs hG) (by omega) ?_
  rintro _ ⟨e, rfl, he⟩
  refine ⟨fun h => ?_, fun h => ?_⟩
  · exact endsq rfl ⟨e, he, .inl ⟨h, rfl⟩⟩
  have h : e = 0 := h
  subst h
  have ho := ans_zero hG he
  have hx := ho.xy
  have hX := fun w (hw : w < L.length) => ix_at ho.xl ho.rx hw
  have hY := fun w (hw : w < L.length) => ix_at ho.yl ho.ry hw
  refine ⟨_, rfl, ?_⟩
  refine callq rfl (genus_ct S hS hx hX hY ho.xl ho.yl (by omega)) (by omega) ?_
  rintro _ rfl
  exact endsq rfl ⟨0, he, .inr ⟨rfl, rfl⟩⟩
theorem fn47 : ctx.fn 47 = some c47 := by kernel_rfl
theorem pLevel_ct (hS : OldO S) (hM : MulOk S) {n : Nat} {o : Nat → O4} (hs : Sml L X Y) (hG : ¬ Bad0 L X Y → (∀ i, i < L.length → okM L i = 0) → AllOk L n o) :
    Ct (ctx.plus S) 47 [pB L X Y] 500000000 fun v => ∃ e : Int, Ans L X Y n o e ∧ ((e ≠ 0 ∧ v = .tup [pn 0, pn e]) ∨ (e = 0 ∧ v = .tup [pn (lvl (cuL (ixN X) (ixN Y) (prN (ixN X) L.length)) : Nat), pn 0])) := by
  have hL := hs.l
  refine ct_of (hS 47 (by decide)) fn47 ?_
  refine ⟨by omega, ?_⟩
  refine ⟨_, rfl, ?_⟩
  refine callq rfl (pCheckOrbit_ct S hS hM hs hG) (by omega) ?_
  rintro _ ⟨e, rfl, he⟩
  refine ⟨fun h => ?_, fun h => ?_⟩
  · exact endsq rfl ⟨e, he, .inl ⟨h, rfl⟩⟩
  have h : e = 0 := h
  subst h
  have ho := ans_zero hG he
  have hx := ho.xy
  have hX := fun w (hw : w < L.length) => ix_at ho.xl ho.rx hw
  have hY := fun w (hw : w < L.length) => ix_at ho.yl ho.ry hw
  refine ⟨_, rfl, ?_⟩
  refine callq rfl (cusps_ct S hS hx hX hY ho.xl ho.yl (by omega)) (by omega) ?_
  rintro _ rfl
  obtain ⟨k1, k2, k3, k4⟩ := cu_facts hx hL
  refine callq rfl (level_ct S hS k1 k2 k3 k4) (by omega) ?_
  rintro _ rfl
  exact endsq rfl ⟨0, he, .inr ⟨rfl, rfl⟩⟩
end
end Go.PI
/- THE LAW OF CURVES. -/
open Go.Proofs
namespace Go.PI
open IM
set_option maxRecDepth 20000
set_option maxHeartbeats 4000000
variable (S : FuncId → Option (List AV → Heap → Option (AV × Heap)))
theorem fn8 : ctx.fn 8 = some c8 := by kernel_rfl
theorem curvesLaw_ct (hS : OldO S) (hM : MulOk S) (hA : Ct (ctx.plus S) 15 [] 0 fun r => r = .bool true) {L : OL} {X Y : List Int} : Ct (ctx.plus S) 8 [pB L X Y] 4000000000 fun v => v = .bool true := by
  refine ct_of (hS 8 (by decide)) fn8 ?_
  refine ⟨by omega, ?_⟩
  refine callq rfl hA (by omega) ?_
  rintro _ rfl
  refine ⟨_, rfl, ?_⟩
  refine callq rfl (small_ct S hS) (by omega) ?_
  rintro _ (⟨hs, rfl⟩ | ⟨hs, rfl⟩)
  rotate_left
  · exact endq rfl rfl
  obtain ⟨n, o, hG⟩ : ∃ n o, ¬ Bad0 L X Y → (∀ i, i < L.length → okM L i = 0) → AllOk L n o := by
    by_cases h : ¬ Bad0 L X Y ∧ ∀ i, i < L.length → okM L i = 0
    · obtain ⟨n, o, h1⟩ := allOk (by
        rcases Nat.eq_zero_or_pos L.length with h0 | h0
        · exact absurd (.inl h0) h.1
        · exact h0) h.2
      exact ⟨n, o, fun _ _ => h1⟩
    · exact ⟨0, fun _ => ⟨id, id, id, id⟩, fun h1 h2 => absurd ⟨h1, h2⟩ h⟩
  have hL := hs.l
  refine ⟨_, rfl, ?_⟩
  refine callq rfl (pCusps_ct S hS hM hs hG) (by omega) ?_
  rintro _ ⟨e, he, hv⟩
  have c2 := (pElliptic_ct S hS hM hs hG).post fun v ⟨e', he', h'⟩ => (show (e ≠ 0 ∧ v = PV.tup [pn 0, pn 0, pn e]) ∨ (e = 0 ∧ v = PV.tup [pn (ell2 X (prN (ixN X) L.length)), pn (ell3 X Y (prN (ixN X) L.length)), pn 0]) by rw [ans_one he he']; exact h')
  have c3 := (pGenus_ct S hS hM hs hG).post fun v ⟨e', he', h'⟩ => (show (e ≠ 0 ∧ v = PV.tup [pn 0, pn e]) ∨ (e = 0 ∧ v = PV.tup [pn (genZ (prN (ixN X) L.length).length (ell2 X (prN (ixN X) L.length)) (ell3 X Y (prN (ixN X) L.length)) (cuL (ixN X) (ixN Y) (prN (ixN X) L.length)).length), pn 0]) by rw [ans_one he he']; exact h')
  have c4 := (pLevel_ct S hS hM hs hG).post fun v ⟨e', he', h'⟩ => (show (e ≠ 0 ∧ v = PV.tup [pn 0, pn e]) ∨ (e = 0 ∧ v = PV.tup [pn (lvl (cuL (ixN X) (ixN Y) (prN (ixN X) L.length)) : Nat), pn 0]) by rw [ans_one he he']; exact h')
  have c5 := (rCheckOrbit_ct S hS hs hG).post fun v ⟨e', hv', he'⟩ => (show v = pn e by rw [ans_one he he']; exact hv')
  rcases hv with ⟨h0, rfl⟩ | ⟨h0, rfl⟩
  · refine ⟨_, rfl, ?_⟩
    refine callq rfl c2 (by omega) ?_
    rintro _ (⟨-, rfl⟩ | ⟨h, -⟩)
    rotate_left
    · exact absurd h h0
    refine ⟨_, rfl, ?_⟩
    refine callq rfl c3 (by omega) ?_
    rintro _ (⟨-, rfl⟩ | ⟨h, -⟩)
    rotate_left
    · exact absurd h h0
    refine ⟨_, rfl, ?_⟩
    refine callq rfl c4 (by omega) ?_
    rintro _ (⟨-, rfl⟩ | ⟨h, -⟩)
    rotate_left
    · exact absurd h h0
    refine ⟨_, rfl, ?_⟩
    refine callq rfl c5 (by omega) ?_
    rintro _ rfl
    refine ⟨fun _ => ?_, fun h => absurd h h0⟩
    refine ⟨fun _ => ?_, fun h => absurd rfl h⟩
    refine ⟨fun _ => ?_, fun h => absurd rfl h⟩
    refine ⟨fun _ => ?_, fun h => absurd rfl h⟩
    refine ⟨fun _ => ?_, fun h => absurd rfl h⟩
    refine ⟨fun _ => ?_, fun h => absurd rfl h⟩
    refine ⟨fun _ => ?_, fun h => absurd rfl h⟩
    refine ⟨fun _ => ?_, fun h => absurd rfl h⟩
    refine ⟨fun _ => ?_, fun h => absurd rfl h⟩
    refine ⟨fun _ => ?_, fun h => absurd rfl h⟩
    exact endq rfl rfl
  · subst h0
    have ho := ans_zero hG he
    have hx := ho.xy
    have hX := fun w (hw : w < L.length) => ix_at ho.xl ho.rx hw
    have hY := fun w (hw : w < L.length) => ix_at ho.yl ho.ry hw
    obtain ⟨k1, k2, k3, k4⟩ := cu_facts hx hL
    have r1 := relliptic_ct S hS (X := X) (Y := Y) hX hY ho.xl ho.yl (by omega)
    have r2 := rcusps_ct S hS hx hX hY ho.xl ho.yl (by omega)
    have r3 := rgenus_ct S hS hx hX hY ho.xl ho.yl (by omega)
    have r4 := rlevel_ct S hS r2 k1 k2 k3 k4
    have r5 := cmpK_ct S hS (A := cuL (ixN X) (ixN Y) (prN (ixN X) L.length)) (by omega) (fun l hl => by have := k4 l hl; omega)
    clear he k1 k2 k3 k4 hx hX hY
    generalize ell2 X (prN (ixN X) L.length) = two at *
    generalize ell3 X Y (prN (ixN X) L.length) = three at *
    generalize cuL (ixN X) (ixN Y) (prN (ixN X) L.length) = C at *
    generalize prN (ixN X) L.length = P at *
    refine ⟨_, rfl, ?_⟩
    refine callq rfl c2 (by omega) ?_
    rintro _ (⟨h, -⟩ | ⟨-, rfl⟩)
    · exact absurd rfl h
    refine ⟨_, rfl, ?_⟩
    refine callq rfl c3 (by omega) ?_
    rintro _ (⟨h, -⟩ | ⟨-, rfl⟩)
    · exact absurd rfl h
    refine ⟨_, rfl, ?_⟩
    refine callq rfl c4 (by omega) ?_
    rintro _ (⟨h, -⟩ | ⟨-, rfl⟩)
    · exact absurd rfl h
    refine ⟨_, rfl, ?_⟩
    refine callq rfl c5 (by omega) ?_
    rintro _ rfl
    refine ⟨fun h => absurd rfl h, fun _ => ?_⟩
    refine ⟨_, rfl, ?_⟩
    refine callq rfl r1 (by omega) ?_
    rintro _ rfl
    refine ⟨fun _ => ?_, fun h => absurd rfl h⟩
    refine ⟨fun _ => ?_, fun h => absurd rfl h⟩
    refine ⟨fun _ => ?_, fun h => absurd rfl h⟩
    refine ⟨fun _ => ?_, fun h => absurd rfl h⟩
    refine ⟨_, rfl, ?_⟩
    refine callq rfl r2 (by omega) ?_
    rintro _ rfl
    refine callq rfl r5 (by omega) ?_
    rintro _ rfl
    refine ⟨fun _ => ?_, fun h => absurd rfl h⟩
    refine ⟨fun _ => ?_, fun h => absurd rfl h⟩
    refine ⟨_, rfl, ?_⟩
    refine callq rfl r3 (by omega) ?_
    rintro _ rfl
    refine ⟨fun _ => ?_, fun h => absurd rfl h⟩
    refine ⟨_, rfl, ?_⟩
    refine callq rfl r4 (by omega) ?_
    rintro _ rfl
    refine ⟨fun _ => ?_, fun h => absurd rfl h⟩
    exact endq rfl rfl
theorem curvesLaw_big (hS : OldO S) (hA : Ct (ctx.plus S) 15 [] 0 fun r => r = .bool true) {n : Nat} {cs : List PV} {X Y : List Int} (hn : 30 < n) (hb : n < 9223372036854775808) : Ct (ctx.plus S) 8 [.agg [.lst n cs, pIs X, pIs Y]] 4000000000 fun v => v = .bool true := by
  refine ct_of (hS 8 (by decide)) fn8 ?_
  refine ⟨by omega, ?_⟩
  refine callq rfl hA (by omega) ?_
  rintro _ rfl
  refine ⟨_, rfl, ?_⟩
  refine callq rfl (small_big S hS hn hb) (by omega) ?_
  rintro _ rfl
  exact endq rfl rfl
end Go.PI
