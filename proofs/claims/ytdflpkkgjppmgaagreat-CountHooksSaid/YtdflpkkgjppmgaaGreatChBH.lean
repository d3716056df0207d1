/- Own work of the verifier: CrD CrG CrH CrI CrJ. -/
import Derived.Test.YtdflpkkgjppmgaaGreatChBG
import Derived.Test.YtdflpkkgjppmgaaGreatChAW
set_option linter.all false
set_option exponentiation.threshold 3000
set_option linter.deprecated false
/- DIMENSIONS OF PARTITIONS, of both. -/
open Go.Proofs
namespace Go.PI
open IM
set_option maxRecDepth 20000
set_option maxHeartbeats 4000000
variable (S : FuncId → Option (List AV → Heap → Option (AV × Heap)))
theorem cnt_app (xs ys : List Int) (j : Nat) : cnt (xs ++ ys) j = cnt xs j + cnt ys j := by unfold cnt; rw [List.filter_append, List.length_append]
theorem cnt_all {xs : List Int} {j : Nat} (h : ∀ x ∈ xs, (j : Int) < x) : cnt xs j = xs.length := by
  unfold cnt
  rw [List.filter_eq_self.2 fun x hx => by simpa using h x hx]
theorem cnt_sm {xs : List Int} (h : ∀ x ∈ xs, 1 ≤ x) (j : Nat) : (cnt xs j : Int) ≤ sm xs := by
  have h1 := cnt_le xs j
  have h2 := sm_ge h
  omega
theorem hk_bd {xs : List Int} (hp : ∀ x ∈ xs, 1 ≤ x) (hP : xs.Pairwise fun a b => b ≤ a) {i j : Nat} {x : Int} (hx : xs[i]? = some x) (hj : (j : Int) < x) : 1 ≤ hk xs i j ∧ hk xs i j + sm (xs.take i) + j ≤ sm xs := by
  have hil := (List.getElem?_eq_some_iff.1 hx).1
  have e1 : cnt (xs.take (i + 1)) j = i + 1 := by
    rw [cnt_all, List.length_take]
    · omega
    · intro y hy
      obtain ⟨q, hq⟩ := List.getElem?_of_mem hy
      have hqi : q < i + 1 := by
        have := (List.getElem?_eq_some_iff.1 hq).1
        rw [List.length_take] at this; omega
      rw [List.getElem?_take, if_pos hqi] at hq
      rcases Nat.lt_or_ge q i with h1 | h1
      · have h2 := List.pairwise_iff_getElem.1 hP q i (by omega) hil h1
        obtain ⟨_, rfl⟩ := List.getElem?_eq_some_iff.1 hq
        obtain ⟨_, rfl⟩ := List.getElem?_eq_some_iff.1 hx
        omega
      · have : q = i := by omega
        subst this
        rw [hx] at hq
        cases hq
        exact hj
  have e2 : cnt xs j = i + 1 + cnt (xs.drop (i + 1)) j := by
    have := cnt_app (xs.take (i + 1)) (xs.drop (i + 1)) j
    rw [List.take_append_drop, e1] at this
    exact this
  have e3 : sm xs = sm (xs.take (i + 1)) + sm (xs.drop (i + 1)) := by rw [← sm_app, List.take_append_drop]
  have e4 := sm_next hx
  have e5 := cnt_sm (xs := xs.drop (i + 1)) (fun y hy => hp y (List.mem_of_mem_drop hy)) j
  have e6 : hk xs i j = x - j + (cnt xs j : Nat) - i - 1 := by unfold hk; rw [getD_of hx]
  omega
def pl (l : List Int) : Int := l.foldl (fun a b => a * b) 1
theorem pl_snoc (l : List Int) (x : Int) : pl (l ++ [x]) = pl l * x := by simp [pl]
structure Pbd (n t : Nat) (p : Int) : Prop where
  pos : 1 ≤ p
  le : t ≤ n
  bd : p * (fac (n - t) : Nat) ≤ (fac n : Nat)
theorem Pbd.start (n : Nat) : Pbd n 0 1 := ⟨by omega, Nat.zero_le _, by rw [Nat.sub_zero]; omega⟩
theorem Pbd.top {n t : Nat} {p : Int} (h : Pbd n t p) : p ≤ (fac n : Nat) := by
  have h1 := fac_pos (n - t)
  have h2 : p * 1 ≤ p * (fac (n - t) : Nat) := Int.mul_le_mul_of_nonneg_left (by omega) (by have := h.pos; omega)
  have := h.bd
  omega
theorem Pbd.next {n t : Nat} {p h : Int} (I : Pbd n t p) (h1 : 1 ≤ h) (h2 : h + t ≤ n) : Pbd n (t + 1) (p * h) := by
  refine ⟨?_, by omega, ?_⟩
  · have : (1 : Int) * 1 ≤ p * h := Int.mul_le_mul I.pos h1 (by omega) (by have := I.pos; omega)
    omega
  · have e : n - t = (n - (t + 1)) + 1 := by omega
    have e2 : ((fac (n - t) : Nat) : Int) = (fac (n - (t + 1)) : Nat) * ((n - t : Nat) : Int) := by
      rw [e]
      show ((fac (n - (t + 1)) * (n - (t + 1) + 1) : Nat) : Int) = _
      rw [Int.natCast_mul]
    have hf := fac_pos (n - (t + 1))
    have h3 : h * (fac (n - (t + 1)) : Nat) ≤ ((n - t : Nat) : Int) * (fac (n - (t + 1)) : Nat) := Int.mul_le_mul_of_nonneg_right (by omega) (by omega)
    have h4 : p * (h * (fac (n - (t + 1)) : Nat)) ≤ p * (((n - t : Nat) : Int) * (fac (n - (t + 1)) : Nat)) := Int.mul_le_mul_of_nonneg_left h3 (by have := I.pos; omega)
    have h5 := I.bd
    rw [e2] at h5
    rw [Int.mul_assoc]
    rw [Int.mul_comm ((n - t : Nat) : Int)] at h4
    exact Int.le_trans h4 h5
theorem hrow_get {xs : List Int} {i m j : Nat} (h : j < m) : (hrow xs i m)[j]? = some (hk xs i j) := by simp [hrow, h]
theorem hks_get {xs : List Int} {n i : Nat} {x : Int} (h : i < n) (hx : xs[i]? = some x) : (hks xs n)[i]? = some (hrow xs i x.toNat) := by
  simp [hks, h, List.getD_eq_getElem?_getD, hx]
theorem flat_next {xs : List Int} {i : Nat} {x : Int} (hx : xs[i]? = some x) : (hks xs i).flatten ++ hrow xs i x.toNat = (hks xs (i + 1)).flatten := by
  rw [hks_succ, List.flatten_append, getD_of hx]
  simp
def hpr (xs : List Int) : Int := pl (hks xs xs.length).flatten
theorem hprod_ct (hS : OldO S) {xs : List Int} (hf : Few xs) (hl : xs.length ≤ 40) (hD : Dsc xs) (hP : xs.Pairwise fun a b => b ≤ a) (h20 : sm xs ≤ 20) : Ct (ctx.plus S) 104 [pIs xs] 1000 fun r => r = pn (hpr xs) ∧ Pbd (sm xs).toNat (sm xs).toNat (hpr xs) := by
  have hp : ∀ x ∈ xs, 1 ≤ x := fun x hx => (hD x hx).1
  have hge := sm_ge hp
  obtain ⟨n, hn⟩ : ∃ n : Nat, sm xs = n := ⟨(sm xs).toNat, by omega⟩
  have hnn : (sm xs).toNat = n := by omega
  have hf20 := fac_20 (n := n) (by omega)
  rw [hnn]
  refine ct_of (hS 104 (by decide)) fn104 ?_
  refine callq rfl (hooks_ct S hS hf hl hD) (by omega) ?_
  rintro _ rfl
  have hkl := hks_len xs xs.length
  refine ⟨fun m s => ∃ (i : Nat) (T : List PV), s = ⟨T, [], 1000⟩ ∧ Gt T 27 [(3, pn (pl (hks xs i).flatten)), (9, pM (hks xs xs.length)), (10, pn xs.length), (11, pn i)] ∧ m = xs.length - i ∧ i ≤ xs.length ∧ Hid (Pbd n (sm (xs.take i)).toNat (pl (hks xs i).flatten)), ⟨_, ci ⟨0, _, rfl, ⟨rfl, rfl, rfl, by show pn _ = pn _; rw [hkl], rfl, trivial⟩, rfl, Nat.zero_le _, ⟨Pbd.start n⟩⟩⟩, ?_⟩
  rintro m s ⟨i, T, rfl, hT, hm, hi, hB⟩
  obtain ⟨J, rfl⟩ := gt_open hT
  clear hT
  refine ⟨fun hlt => ?_, fun hge2 => ?_⟩
  · obtain ⟨x, hx⟩ := xs_get (xs := xs) (i := i) (by omega)
    have hxf := hf.2 x (List.mem_of_getElem? hx)
    have hxD := hD x (List.mem_of_getElem? hx)
    obtain ⟨k0, hk0⟩ : ∃ k0 : Nat, x = k0 := ⟨x.toNat, by omega⟩
    subst hk0
    have hrl := hrow_len xs i k0
    have hgr := hks_get (n := xs.length) (by omega) hx
    rw [show ((k0 : Nat) : Int).toNat = k0 by omega] at hgr
    have hst : 0 ≤ sm (xs.take i) := by
      have := sm_ge (xs := xs.take i) fun y hy => hp y (List.mem_of_mem_take hy)
      omega
    refine ⟨⟨⟨by omega, by omega⟩, len_map_le (by omega)⟩, ?_⟩
    refine ⟨_, ld (at_map hgr) (by show _ * 1 = i; omega), ?_⟩
    refine ⟨fun m s => ∃ (k : Nat) (T : List PV), s = ⟨T, [], 1000⟩ ∧ Gt T 27 [(3, pn (pl ((hks xs i).flatten ++ hrow xs i k))), (9, pM (hks xs xs.length)), (10, pn xs.length), (11, pn i), (15, pIs (hrow xs i k0)), (16, pn k0), (17, pn k)] ∧ m = k0 - k ∧ k ≤ k0 ∧ Hid (Pbd n ((sm (xs.take i)).toNat + k) (pl ((hks xs i).flatten ++ hrow xs i k))), ⟨_, ci ⟨0, _, rfl, ⟨rfl, by show pn _ = pn _; congr 2; simp [hrow], rfl, rfl, rfl, rfl, by show pn _ = pn _; rw [hrl], rfl, trivial⟩, rfl, Nat.zero_le _, ⟨by simpa [hrow] using hB.h⟩⟩⟩, ?_⟩
    rintro m s ⟨k, T, rfl, hT, hm2, hkle, hB2⟩
    obtain ⟨J, rfl⟩ := gt_open hT
    clear hT
    refine ⟨fun hlt2 => ?_, fun hge3 => ?_⟩
    · obtain ⟨b1, b2⟩ := hk_bd hp hP hx (j := k) (by omega)
      have hN := hB2.h.next b1 (by omega)
      have ht := hN.top
      have hpos := hN.pos
      have e1 : (hks xs i).flatten ++ hrow xs i (k + 1) = (hks xs i).flatten ++ hrow xs i k ++ [hk xs i k] := by rw [hrow_succ, List.append_assoc]
      refine ⟨⟨⟨by omega, by omega⟩, len_map_le (by omega)⟩, ?_⟩
      refine ⟨_, ld (at_map (hrow_get (show k < k0 by omega))) (by show _ * 1 = k; omega), ?_⟩
      refine ⟨by unfold In64; omega, ?_⟩
      refine ⟨⟨by omega, by omega⟩, ?_⟩
      exact ⟨_, by omega, ci ⟨k + 1, _, rfl, ⟨rfl, by show pn _ = pn _; rw [e1, pl_snoc], rfl, rfl, rfl, rfl, rfl, by show pn _ = pn _; norm_cast, trivial⟩, rfl, by omega, ⟨by rw [e1, pl_snoc]; exact hN⟩⟩⟩
    · have hkk : k = k0 := by omega
      subst hkk
      have hfn := flat_next hx
      rw [show ((k : Nat) : Int).toNat = k by omega] at hfn
      refine ⟨⟨by omega, by omega⟩, ?_⟩
      exact ⟨_, by omega, ci ⟨i + 1, _, rfl, ⟨rfl, by show pn _ = pn _; rw [hfn], rfl, rfl, by show pn _ = pn _; norm_cast, trivial⟩, rfl, by omega, ⟨by
        have := hB2.h
        rw [hfn] at this
        rw [sm_next hx, show (sm (xs.take i) + (k : Nat)).toNat = (sm (xs.take i)).toNat + k by omega]
        exact this⟩⟩⟩
  · have hin : i = xs.length := by omega
    subst hin
    refine endq rfl ⟨rfl, ?_⟩
    have := hB.h
    rw [List.take_of_length_le (Nat.le_refl _), hnn] at this
    exact this
theorem dim_ct (hS : OldO S) {xs : List Int} (hf : Few xs) (hl : xs.length ≤ 40) (hD : Dsc xs) (hP : xs.Pairwise fun a b => b ≤ a) (h20 : sm xs ≤ 20) : Ct (ctx.plus S) 55 [pIs xs] 1000 fun r => r = pn ((fac (sm xs).toNat : Nat) / hpr xs) := by
  have hp : ∀ x ∈ xs, 1 ≤ x := fun x hx => (hD x hx).1
  have hge := sm_ge hp
  obtain ⟨n, hn⟩ : ∃ n : Nat, sm xs = n := ⟨(sm xs).toNat, by omega⟩
  have hf20 := fac_20 (n := n) (by omega)
  refine ct_of (hS 55 (by decide)) fn55 ?_
  refine callq rfl (size'_ct S hS hf) (by omega) ?_
  rintro _ rfl
  rw [hn]
  refine callq rfl (factorial_ct S hS (by omega)) (by omega) ?_
  rintro _ rfl
  refine callq rfl (hprod_ct S hS hf hl hD hP h20) (by omega) ?_
  rintro _ ⟨rfl, hB⟩
  have hpos := hB.pos
  have e : ((fac n : Nat) : Int).tdiv (hpr xs) = (fac n : Nat) / hpr xs := Int.tdiv_eq_ediv_of_nonneg (by omega)
  have q1 : 0 ≤ ((fac n : Nat) : Int) / hpr xs := Int.ediv_nonneg (by omega) (by omega)
  have q2 : ((fac n : Nat) : Int) / hpr xs ≤ (fac n : Nat) := Int.ediv_le_self _ (by omega)
  refine ⟨⟨by omega, by rw [e]; unfold In64; omega⟩, ?_⟩
  rw [e]
  exact endq rfl rfl
theorem rdim_ct (hS : OldO S) {xs : List Int} (hf : Few xs) (hl : xs.length ≤ 40) (hD : Dsc xs) (hP : xs.Pairwise fun a b => b ≤ a) (h20 : sm xs ≤ 20) : Ct (ctx.plus S) 20 [pIs xs] 30000000 fun r => r = pI ((fac (sm xs).toNat : Nat) / hpr xs) ∧ 1 ≤ hpr xs ∧ hpr xs ≤ (fac (sm xs).toNat : Nat) := by
  have hp : ∀ x ∈ xs, 1 ≤ x := fun x hx => (hD x hx).1
  have hge := sm_ge hp
  obtain ⟨n, hn⟩ : ∃ n : Nat, sm xs = n := ⟨(sm xs).toNat, by omega⟩
  have hnn : (sm xs).toNat = n := by omega
  have hf20 := fac_20 (n := n) (by omega)
  rw [hnn]
  refine ct_of (hS 20 (by decide)) fn20 ?_
  refine callq rfl (rhooks_ct S hS hf hl hD) (by omega) ?_
  rintro _ rfl
  have hkl := hks_len xs xs.length
  refine ⟨by omega, part1 fzI ⟨[pn 1], rfl, ?_⟩⟩
  refine ⟨fun m s => ∃ (i b : Nat) (σ : List StB) (T : List PV), s = ⟨T, σ, b⟩ ∧ Gt T 40 [(0, pIs xs), (3, pM (hks xs xs.length)), (4, pI (pl (hks xs i).flatten)), (5, pn i)] ∧ m = xs.length - i ∧ i ≤ xs.length ∧ b ≤ 20000 + 20001 * (sm (xs.take i)).toNat ∧ Hid (Pbd n (sm (xs.take i)).toNat (pl (hks xs i).flatten)), ⟨_, ⟨_, frzS_tmp (i := 4) (v := .own 0 0 1 1 1) (by rfl) (by exact ⟨3, [pn 1], [pn 1], rfl, ⟨by decide, by decide⟩, rfl, rfl⟩), 0, _, _, _, rfl, ⟨rfl, rfl, rfl, by show PV.lst 1 [pn 1] = pI _; exact one_pI, rfl, trivial⟩, rfl, Nat.zero_le _, by omega, ⟨Pbd.start n⟩⟩⟩, ?_⟩
  rintro m s ⟨i, b, σ, T, rfl, hT, hm, hi, hb, hB⟩
  obtain ⟨J, rfl⟩ := gt_open hT
  clear hT
  refine ⟨fun hlt => ?_, fun hge2 => ?_⟩
  · obtain ⟨x, hx⟩ := xs_get (xs := xs) (i := i) (by omega)
    have hxf := hf.2 x (List.mem_of_getElem? hx)
    have hxD := hD x (List.mem_of_getElem? hx)
    obtain ⟨k0, hk0⟩ : ∃ k0 : Nat, x = k0 := ⟨x.toNat, by omega⟩
    subst hk0
    have hrl := hrow_len xs i k0
    have hgr := hks_get (n := xs.length) (by omega) hx
    rw [show ((k0 : Nat) : Int).toNat = k0 by omega] at hgr
    have hst : 0 ≤ sm (xs.take i) := by
      have := sm_ge (xs := xs.take i) fun y hy => hp y (List.mem_of_mem_take hy)
      omega
    refine ⟨fun m s => ∃ (k b' : Nat) (σ : List StB) (T : List PV), s = ⟨T, σ, b'⟩ ∧ Gt T 40 [(0, pIs xs), (3, pM (hks xs xs.length)), (4, pI (pl ((hks xs i).flatten ++ hrow xs i k))), (5, pn i), (6, pn k)] ∧ m = k0 - k ∧ k ≤ k0 ∧ b' ≤ 20000 + 20001 * ((sm (xs.take i)).toNat + k) ∧ Hid (Pbd n ((sm (xs.take i)).toNat + k) (pl ((hks xs i).flatten ++ hrow xs i k))), ⟨_, ci ⟨0, b, _, _, rfl, ⟨rfl, rfl, rfl, by show pI _ = pI _; congr 2; simp [hrow], rfl, rfl, trivial⟩, rfl, Nat.zero_le _, by omega, ⟨by simpa [hrow] using hB.h⟩⟩⟩, ?_⟩
    rintro m s ⟨k, b', σ, T, rfl, hT, hm2, hkle, hb2, hB2⟩
    obtain ⟨J, rfl⟩ := gt_open hT
    clear hT
    refine ⟨⟨⟨by omega, by omega⟩, len_map_le (by omega)⟩, ?_⟩
    refine ⟨_, ld (at_map hgr) (by show _ * 1 = i; omega), ?_⟩
    refine ⟨fun hlt2 => ?_, fun hge3 => ?_⟩
    · obtain ⟨b1, b2⟩ := hk_bd hp hP hx (j := k) (by omega)
      have hN := hB2.h.next b1 (by omega)
      have ht := hN.top
      have hpos := hN.pos
      have ht0 := hB2.h.top
      have hpos0 := hB2.h.pos
      have d1 := dig_18 (X := pl ((hks xs i).flatten ++ hrow xs i k)) (by omega)
      have d2 := dig_20 (X := hk xs i k) (by omega)
      have e1 : (hks xs i).flatten ++ hrow xs i (k + 1) = (hks xs i).flatten ++ hrow xs i k ++ [hk xs i k] := by rw [hrow_succ, List.append_assoc]
      have hle := hB2.h.le
      refine ⟨⟨⟨by omega, by omega⟩, len_map_le (by omega)⟩, ?_⟩
      refine ⟨_, ld (at_map hgr) (by show _ * 1 = i; omega), ?_⟩
      refine ⟨⟨⟨by omega, by omega⟩, len_map_le (by omega)⟩, ?_⟩
      refine ⟨_, ld (at_map (hrow_get (show k < k0 by omega))) (by show _ * 1 = k; omega), ?_⟩
      refine ⟨by omega, part1 fzI ⟨[pn (hk xs i k)], rfl, ?_⟩⟩
      refine cal2 fzL (fz_own (n := 1) (c := 1) (cs' := [pn (hk xs i k)]) push_cont (Nat.le_refl 1) (by decide) rfl) (rmuls_ct S (oldR_of S hS) (xs := digits (pl ((hks xs i).flatten ++ hrow xs i k))) (ys := [hk xs i k]) (X := pl ((hks xs i).flatten ++ hrow xs i k)) (Y := hk xs i k) (Rw.of (by omega)) (Rw.one (by omega)) (by omega) (by simp) (by omega)) (by omega) ?_
      rintro _ rfl
      refine ⟨⟨by omega, by omega⟩, ?_⟩
      exact ⟨_, by omega, ci ⟨k + 1, _, _, _, rfl, ⟨rfl, rfl, rfl, by show pI _ = pI _; rw [e1, pl_snoc], rfl, by show pn _ = pn _; norm_cast, trivial⟩, rfl, by omega, by omega, ⟨by rw [e1, pl_snoc]; exact hN⟩⟩⟩
    · have hkk : k = k0 := by omega
      subst hkk
      have hfn := flat_next hx
      rw [show ((k : Nat) : Int).toNat = k by omega] at hfn
      have esm : (sm (xs.take (i + 1))).toNat = (sm (xs.take i)).toNat + k := by rw [sm_next hx]; omega
      refine ⟨⟨by omega, by omega⟩, ?_⟩
      exact ⟨_, by omega, ci ⟨i + 1, _, _, _, rfl, ⟨rfl, rfl, rfl, by show pI _ = pI _; rw [hfn], by show pn _ = pn _; norm_cast, trivial⟩, rfl, by omega, by rw [esm]; omega, ⟨by
        have := hB2.h
        rw [hfn] at this
        rw [esm]
        exact this⟩⟩⟩
  · have hin : i = xs.length := by omega
    subst hin
    have hBn := hB.h
    rw [List.take_of_length_le (Nat.le_refl _), hnn] at hBn hb
    have ht : hpr xs ≤ (fac n : Nat) := hBn.top
    have hpos : 1 ≤ hpr xs := hBn.pos
    have d1 := dig_18 (X := (fac n : Nat)) (by omega)
    have d2 := dig_18 (X := hpr xs) (by omega)
    refine callq rfl (rsize'_ct S hS hf) (by omega) ?_
    rintro _ rfl
    rw [hn]
    refine callq rfl (rfactorial_ct S hS (by omega)) (by omega) ?_
    rintro _ rfl
    refine callq rfl (rquot_ct S hS (xs := digits (fac n : Nat)) (ys := digits (hpr xs)) (X := (fac n : Nat)) (Y := hpr xs) (Rw.of (by omega)) (Rw.of (by omega)) (by omega) (by omega) (by omega)) (by omega) ?_
    rintro _ rfl
    exact endq rfl ⟨rfl, hpos, ht⟩
end Go.PI
/- WORDS OF BEADS, of the program. -/
open Go.Proofs
namespace Go.PI
open IM
set_option maxRecDepth 20000
set_option maxHeartbeats 4000000
variable (S : FuncId → Option (List AV → Heap → Option (AV × Heap)))
theorem fn107 : ctx.fn 107 = some c107 := by kernel_rfl
theorem fn108 : ctx.fn 108 = some c108 := by kernel_rfl
theorem fn140 : ctx.fn 140 = some c140 := by kernel_rfl
theorem fn139 : ctx.fn 139 = some c139 := by kernel_rfl
theorem fn58 : ctx.fn 58 = some c58 := by kernel_rfl
theorem wrapU {n : Nat} (h : n < 2 ^ 64) : IntKind.wrap .u64 (n : Int) = n := by
  show (n : Int) % 18446744073709551616 = n
  omega
theorem shrU {w k : Nat} (hk : k ≤ 64) : shiftE .shr .u64 (w : Int) (k : Int) = some (AV.int .u64 ((w >>> k : Nat) : Int)) := by
  unfold shiftE
  rw [if_neg (by omega)]
  simp only [Int.toNat_natCast, IntKind.bits]
  rw [Nat.min_eq_left hk, Nat.shiftRight_eq_div_pow, Int.fdiv_eq_ediv_of_nonneg _ (by exact_mod_cast Nat.zero_le (2 ^ k))]
  norm_cast
theorem shlU {k : Nat} (hk : k < 64) : shiftE .shl .u64 1 (k : Int) = some (AV.int .u64 ((2 ^ k : Nat) : Int)) := by
  unfold shiftE
  rw [if_neg (by omega)]
  simp only [Int.toNat_natCast, IntKind.bits]
  rw [Nat.min_eq_left (by omega), Int.one_mul]
  have h := wrapU (n := 2 ^ k) (Nat.pow_lt_pow_right (by omega) hk)
  rw [show (2 : Int) ^ k = ((2 ^ k : Nat) : Int) by norm_cast, h]
theorem andU {a b : Nat} (ha : a < 2 ^ 64) (hb : b < 2 ^ 64) : intBin .and .u64 (a : Int) (b : Int) = some (AV.int .u64 ((a &&& b : Nat) : Int)) := by
  show some (AV.int .u64 (IntKind.wrap .u64 ((BitVec.ofInt 64 (a : Int) &&& BitVec.ofInt 64 (b : Int)).toNat : Int))) = _
  rw [BitVec.toNat_and, BitVec.ofInt_natCast, BitVec.ofInt_natCast, BitVec.toNat_ofNat, BitVec.toNat_ofNat, Nat.mod_eq_of_lt ha, Nat.mod_eq_of_lt hb, wrapU (Nat.and_lt_two_pow _ hb)]
theorem orU {a b : Nat} (ha : a < 2 ^ 64) (hb : b < 2 ^ 64) : intBin .or .u64 (a : Int) (b : Int) = some (AV.int .u64 ((a ||| b : Nat) : Int)) := by
  show some (AV.int .u64 (IntKind.wrap .u64 ((BitVec.ofInt 64 (a : Int) ||| BitVec.ofInt 64 (b : Int)).toNat : Int))) = _
  rw [BitVec.toNat_or, BitVec.ofInt_natCast, BitVec.ofInt_natCast, BitVec.toNat_ofNat, BitVec.toNat_ofNat, Nat.mod_eq_of_lt ha, Nat.mod_eq_of_lt hb, wrapU (Nat.or_lt_two_pow ha hb)]
theorem xorU {a b : Nat} (ha : a < 2 ^ 64) (hb : b < 2 ^ 64) : intBin .xor .u64 (a : Int) (b : Int) = some (AV.int .u64 ((a ^^^ b : Nat) : Int)) := by
  show some (AV.int .u64 (IntKind.wrap .u64 ((BitVec.ofInt 64 (a : Int) ^^^ BitVec.ofInt 64 (b : Int)).toNat : Int))) = _
  rw [BitVec.toNat_xor, BitVec.ofInt_natCast, BitVec.ofInt_natCast, BitVec.toNat_ofNat, BitVec.toNat_ofNat, Nat.mod_eq_of_lt ha, Nat.mod_eq_of_lt hb, wrapU (Nat.xor_lt_two_pow ha hb)]
theorem has_ct (hS : OldO S) {w k : Nat} (hw : w < 2 ^ 64) (hk : k < 64) : Ct (ctx.plus S) 107 [pu w, pn k] 0 fun r => r = .bool (w.testBit k) := by
  refine ct_of (hS 107 (by decide)) fn107 ?_
  have hsw : w >>> k < 2 ^ 64 := Nat.lt_of_le_of_lt (Nat.shiftRight_le _ _) hw
  refine ⟨_, shrU (by omega), ?_⟩
  refine ⟨rfl, _, andU (b := 1) hsw (by decide), ?_⟩
  have e : w.testBit k = true ↔ w >>> k &&& 1 = 1 := by
    rw [Nat.testBit_eq_decide_div_mod_eq, decide_eq_true_iff, Nat.and_one_is_mod, Nat.shiftRight_eq_div_pow]
  by_cases h : w.testBit k = true
  · have h1 := e.1 h
    rw [h1, h]
    refine ⟨rfl, _, rfl, ?_⟩
    exact endq rfl rfl
  · have h1 : ¬ (w >>> k &&& 1 = 1) := fun hh => h (e.2 hh)
    have h0 : w >>> k &&& 1 = 0 := by rw [Nat.and_one_is_mod] at h1 ⊢; omega
    rw [h0, show w.testBit k = false by simpa using h]
    refine ⟨rfl, _, rfl, ?_⟩
    exact endq rfl rfl
end Go.PI
/- HOW LONG A WORD IS, of the library. -/
open Go.Proofs
namespace Go.PI
open IM
set_option maxRecDepth 20000
set_option maxHeartbeats 4000000
variable (S : FuncId → Option (List AV → Heap → Option (AV × Heap)))
def okTab (s : ByteArray) : Bool := (List.range 256).all fun x => match s[x]? with
  | some b => decide (b.toNat ≤ 8 ∧ x < 2 ^ b.toNat)
  | none => false
theorem tab_k {s : ByteArray} {m : Int} {x : Nat} {K : UInt8 → Prop} (hs : okTab s = true) (hm : m = x) (hx : x < 256) (hK : ∀ b : UInt8, b.toNat ≤ 8 → x < 2 ^ b.toNat → K b) : ∃ b, s[m.toNat]? = some b ∧ K b := by
  subst hm
  unfold okTab at hs
  have h := List.all_eq_true.1 hs x (List.mem_range.2 hx)
  rw [Int.toNat_natCast]
  split at h
  · rename_i b hb
    have h2 := of_decide_eq_true h
    exact ⟨b, hb, hK _ h2.1 h2.2⟩
  · cases h
theorem wrap8 {x : Nat} (h : x < 256) : IntKind.wrap .u8 (x : Int) = x := by
  show (x : Int) % 256 = x
  omega
theorem wrap8i {x : Nat} (h : x < 256) : IntKind.wrap .i64 (x : Int) = x := wrap64 (by unfold In64; omega)
theorem in64_b {o v : Int} {b : Nat} (h : v = b) (hb : b ≤ 8) (ho : 0 ≤ o ∧ o ≤ 64) : In64 (o + v) := by
  subst h
  unfold In64
  omega
theorem add_b {o v : Int} {b off : Nat} (h : v = b) (ho : o = (off : Nat)) : o + v = ((b + off : Nat) : Int) := by
  subst h
  subst ho
  omega
theorem len_fin {w X b off D : Nat} (hD : D = 2 ^ off) (hx : X < 2 ^ b) (hX : w / D = X) : w < 2 ^ (b + off) := by
  subst hD
  subst hX
  rw [Nat.pow_add]
  exact (Nat.div_lt_iff_lt_mul (Nat.pow_pos (by omega))).1 hx
set_option maxHeartbeats 400000 in
theorem len_ct (hS : OldO S) {w : Nat} (hw : w < 2 ^ 64) : Ct (ctx.plus S) 139 [pu w] 0 fun r => ∃ L : Nat, r = pn L ∧ L ≤ 64 ∧ w < 2 ^ L := by
  refine ct_of (hS 139 (by decide)) fn139 ?_
  refine ⟨rfl, _, rfl, ?_⟩
  by_cases h0 : (w : Int) ≥ 4294967296
  · rw [decide_eq_true h0]
    refine ⟨_, shrU (k := 32) (by omega), ?_⟩
    have e0 : w >>> 32 = w / 4294967296 := by rw [Nat.shiftRight_eq_div_pow]
    generalize w >>> 32 = X0 at e0 ⊢
    refine ⟨rfl, _, rfl, ?_⟩
    by_cases h1 : (X0 : Int) ≥ 65536
    · rw [decide_eq_true h1]
      refine ⟨_, shrU (k := 16) (by omega), ?_⟩
      have e1 : X0 >>> 16 = X0 / 65536 := by rw [Nat.shiftRight_eq_div_pow]
      generalize X0 >>> 16 = X1 at e1 ⊢
      refine ⟨⟨by omega, by omega⟩, ?_⟩
      refine ⟨rfl, _, rfl, ?_⟩
      by_cases h2 : (X1 : Int) ≥ 256
      · rw [decide_eq_true h2]
        refine ⟨_, shrU (k := 8) (by omega), ?_⟩
        have e2 : X1 >>> 8 = X1 / 256 := by rw [Nat.shiftRight_eq_div_pow]
        generalize X1 >>> 8 = X2 at e2 ⊢
        refine ⟨⟨by omega, by omega⟩, ?_⟩
        refine ⟨show (0 : Int) ≤ IntKind.wrap .u8 (X2 : Int) by rw [wrap8 (by omega)]; omega, ?_⟩
        refine tab_k (x := X2) (by kernel_rfl) (wrap8 (by omega)) (by omega) fun b hb hwb => ?_
        have hbw : IntKind.wrap .i64 (b.toNat : Int) = b.toNat := wrap8i (by omega)
        refine ⟨in64_b hbw hb (by decide), ?_⟩
        exact endq rfl ⟨b.toNat + 56, congrArg pn (add_b hbw rfl), by omega, len_fin (X := X2) (D := 72057594037927936) (by decide) hwb (by omega)⟩
      · rw [decide_eq_false h2]
        refine ⟨show (0 : Int) ≤ IntKind.wrap .u8 (X1 : Int) by rw [wrap8 (by omega)]; omega, ?_⟩
        refine tab_k (x := X1) (by kernel_rfl) (wrap8 (by omega)) (by omega) fun b hb hwb => ?_
        have hbw : IntKind.wrap .i64 (b.toNat : Int) = b.toNat := wrap8i (by omega)
        refine ⟨in64_b hbw hb (by decide), ?_⟩
        exact endq rfl ⟨b.toNat + 48, congrArg pn (add_b hbw rfl), by omega, len_fin (X := X1) (D := 281474976710656) (by decide) hwb (by omega)⟩
    · rw [decide_eq_false h1]
      refine ⟨rfl, _, rfl, ?_⟩
      by_cases h2 : (X0 : Int) ≥ 256
      · rw [decide_eq_true h2]
        refine ⟨_, shrU (k := 8) (by omega), ?_⟩
        have e2 : X0 >>> 8 = X0 / 256 := by rw [Nat.shiftRight_eq_div_pow]
        generalize X0 >>> 8 = X2 at e2 ⊢
        refine ⟨⟨by omega, by omega⟩, ?_⟩
        refine ⟨show (0 : Int) ≤ IntKind.wrap .u8 (X2 : Int) by rw [wrap8 (by omega)]; omega, ?_⟩
        refine tab_k (x := X2) (by kernel_rfl) (wrap8 (by omega)) (by omega) fun b hb hwb => ?_
        have hbw : IntKind.wrap .i64 (b.toNat : Int) = b.toNat := wrap8i (by omega)
        refine ⟨in64_b hbw hb (by decide), ?_⟩
        exact endq rfl ⟨b.toNat + 40, congrArg pn (add_b hbw rfl), by omega, len_fin (X := X2) (D := 1099511627776) (by decide) hwb (by omega)⟩
      · rw [decide_eq_false h2]
        refine ⟨show (0 : Int) ≤ IntKind.wrap .u8 (X0 : Int) by rw [wrap8 (by omega)]; omega, ?_⟩
        refine tab_k (x := X0) (by kernel_rfl) (wrap8 (by omega)) (by omega) fun b hb hwb => ?_
        have hbw : IntKind.wrap .i64 (b.toNat : Int) = b.toNat := wrap8i (by omega)
        refine ⟨in64_b hbw hb (by decide), ?_⟩
        exact endq rfl ⟨b.toNat + 32, congrArg pn (add_b hbw rfl), by omega, len_fin (X := X0) (D := 4294967296) (by decide) hwb (by omega)⟩
  · rw [decide_eq_false h0]
    refine ⟨rfl, _, rfl, ?_⟩
    by_cases h1 : (w : Int) ≥ 65536
    · rw [decide_eq_true h1]
      refine ⟨_, shrU (k := 16) (by omega), ?_⟩
      have e1 : w >>> 16 = w / 65536 := by rw [Nat.shiftRight_eq_div_pow]
      generalize w >>> 16 = X1 at e1 ⊢
      refine ⟨⟨by omega, by omega⟩, ?_⟩
      refine ⟨rfl, _, rfl, ?_⟩
      by_cases h2 : (X1 : Int) ≥ 256
      · rw [decide_eq_true h2]
        refine ⟨_, shrU (k := 8) (by omega), ?_⟩
        have e2 : X1 >>> 8 = X1 / 256 := by rw [Nat.shiftRight_eq_div_pow]
        generalize X1 >>> 8 = X2 at e2 ⊢
        refine ⟨⟨by omega, by omega⟩, ?_⟩
        refine ⟨show (0 : Int) ≤ IntKind.wrap .u8 (X2 : Int) by rw [wrap8 (by omega)]; omega, ?_⟩
        refine tab_k (x := X2) (by kernel_rfl) (wrap8 (by omega)) (by omega) fun b hb hwb => ?_
        have hbw : IntKind.wrap .i64 (b.toNat : Int) = b.toNat := wrap8i (by omega)
        refine ⟨in64_b hbw hb (by decide), ?_⟩
        exact endq rfl ⟨b.toNat + 24, congrArg pn (add_b hbw rfl), by omega, len_fin (X := X2) (D := 16777216) (by decide) hwb (by omega)⟩
      · rw [decide_eq_false h2]
        refine ⟨show (0 : Int) ≤ IntKind.wrap .u8 (X1 : Int) by rw [wrap8 (by omega)]; omega, ?_⟩
        refine tab_k (x := X1) (by kernel_rfl) (wrap8 (by omega)) (by omega) fun b hb hwb => ?_
        have hbw : IntKind.wrap .i64 (b.toNat : Int) = b.toNat := wrap8i (by omega)
        refine ⟨in64_b hbw hb (by decide), ?_⟩
        exact endq rfl ⟨b.toNat + 16, congrArg pn (add_b hbw rfl), by omega, len_fin (X := X1) (D := 65536) (by decide) hwb (by omega)⟩
    · rw [decide_eq_false h1]
      refine ⟨rfl, _, rfl, ?_⟩
      by_cases h2 : (w : Int) ≥ 256
      · rw [decide_eq_true h2]
        refine ⟨_, shrU (k := 8) (by omega), ?_⟩
        have e2 : w >>> 8 = w / 256 := by rw [Nat.shiftRight_eq_div_pow]
        generalize w >>> 8 = X2 at e2 ⊢
        refine ⟨⟨by omega, by omega⟩, ?_⟩
        refine ⟨show (0 : Int) ≤ IntKind.wrap .u8 (X2 : Int) by rw [wrap8 (by omega)]; omega, ?_⟩
        refine tab_k (x := X2) (by kernel_rfl) (wrap8 (by omega)) (by omega) fun b hb hwb => ?_
        have hbw : IntKind.wrap .i64 (b.toNat : Int) = b.toNat := wrap8i (by omega)
        refine ⟨in64_b hbw hb (by decide), ?_⟩
        exact endq rfl ⟨b.toNat + 8, congrArg pn (add_b hbw rfl), by omega, len_fin (X := X2) (D := 256) (by decide) hwb (by omega)⟩
      · rw [decide_eq_false h2]
        refine ⟨show (0 : Int) ≤ IntKind.wrap .u8 (w : Int) by rw [wrap8 (by omega)]; omega, ?_⟩
        refine tab_k (x := w) (by kernel_rfl) (wrap8 (by omega)) (by omega) fun b hb hwb => ?_
        have hbw : IntKind.wrap .i64 (b.toNat : Int) = b.toNat := wrap8i (by omega)
        refine ⟨in64_b hbw hb (by decide), ?_⟩
        exact endq rfl ⟨b.toNat + 0, congrArg pn (add_b hbw rfl), by omega, len_fin (X := w) (D := 1) (by decide) hwb (by omega)⟩
end Go.PI
/- PLACES OF BEADS: a loop over a function. -/
open Go.Proofs
namespace Go.PI
open IM
set_option maxRecDepth 20000
set_option maxHeartbeats 1000000
variable (S : FuncId → Option (List AV → Heap → Option (AV × Heap)))
theorem fn138 : ctx.fn 138 = some c138 := by kernel_rfl
theorem fn106 : ctx.fn 106 = some c106 := by kernel_rfl
theorem yldq {C : Ctx} {c k d i : Nat} {σ : List StB} {ps : List PV} {K : PV → List StB → Nat → Prop} {Q : Bool → List StB → Prop} (h : Cy C i ps σ d Q) (hk : k + d ≤ c) (hK : ∀ r σ', Q r σ' → K (.bool r) σ' (k + d)) : YldK false C c k σ i ps K :=
  ⟨rfl, [], ⟨[], by cases ps <;> exact ⟨d, Q, hk, h, hK⟩⟩⟩
theorem places_cm (hS : OldO S) {w i d : Nat} (hw : w < 2 ^ 64) {σ0 : List StB} (Inv : Nat → List StB → Prop) (Fin : List StB → Prop)
    (hy : ∀ (p : Nat) (σ : List StB), p < 64 → w.testBit p = true → Inv (p + 1) σ → Cy (ctx.plus S) i [pn p] σ d fun b σ' => (b = true ∧ Inv p σ') ∨ (b = false ∧ Fin σ'))
    (hskip : ∀ (p : Nat) (σ : List StB), w.testBit p = false → Inv (p + 1) σ → Inv p σ) (h0 : ∀ L, L ≤ 64 → w < 2 ^ L → Inv L σ0) :
    Cm (ctx.plus S) 138 [.yld i, .lptr [pu w]] σ0 (64 * d) fun r σ' => r = .tup [] ∧ (Inv 0 σ' ∨ Fin σ') := by
  refine cm_of Opn.no (hS 138 (by decide)) fn138 fun c k0 hc => ?_
  refine ⟨_, rfl, ?_⟩
  refine callq rfl (len_ct S hS hw) (by omega) ?_
  rintro _ ⟨L, rfl, hL, hwL⟩
  refine ⟨⟨by omega, by omega⟩, ?_⟩
  have hLd : L * d ≤ 64 * d := Nat.mul_le_mul_right _ hL
  refine ⟨fun m s => ∃ (p k : Nat) (σ : List StB) (T : List PV), s = ⟨T, σ, k⟩ ∧ Gt T 20 [(0, .yld i), (1, .lptr [pu w]), (3, pn ((p : Int) - 1))] ∧ m = p ∧ p ≤ 64 ∧ k + p * d ≤ k0 + 64 * d ∧ Hid (Inv p σ), ⟨_, ci ⟨L, k0, σ0, _, rfl, ⟨rfl, rfl, rfl, rfl, trivial⟩, rfl, hL, by omega, ⟨h0 L hL hwL⟩⟩⟩, ?_⟩
  rintro m s ⟨p, k, σ, T, rfl, hT, hm, hp, hk, hI⟩
  obtain ⟨J, rfl⟩ := gt_open hT
  clear hT
  refine ⟨fun hge => ?_, fun hlt => ?_⟩
  · obtain ⟨q, rfl⟩ : ∃ q, p = q + 1 := ⟨p - 1, by omega⟩
    have hmul : (q + 1) * d = q * d + d := Nat.succ_mul q d
    have eq : ((q + 1 : Nat) : Int) - 1 = (q : Nat) := by omega
    rw [eq]
    refine ⟨_, rfl, ?_⟩
    refine callq rfl (has_ct S hS hw (by omega)) (by omega) ?_
    rintro _ rfl
    cases hb : w.testBit q with
    | false =>
      refine ⟨⟨by omega, by omega⟩, ?_⟩
      exact ⟨_, by omega, ci ⟨q, k, σ, _, rfl, ⟨rfl, rfl, rfl, rfl, trivial⟩, rfl, by omega, by omega, ⟨hskip q σ hb hI.h⟩⟩⟩
    | true =>
      refine yldq (hy q σ (by omega) hb hI.h) (by omega) ?_
      rintro r σ' (⟨rfl, hI2⟩ | ⟨rfl, hF⟩)
      · refine ⟨⟨by omega, by omega⟩, ?_⟩
        exact ⟨_, by omega, ci ⟨q, k + d, σ', _, rfl, ⟨rfl, rfl, rfl, rfl, trivial⟩, rfl, by omega, by omega, ⟨hI2⟩⟩⟩
      · refine endm [] (by dsimp only; omega) ?_
        exact ⟨rfl, .inr hF⟩
  · have hp0 : p = 0 := by omega
    subst hp0
    refine endm [] (by dsimp only; omega) ?_
    exact ⟨rfl, .inl hI.h⟩
end Go.PI
/- THE PARTITION OF BEADS: a loop over a function, with a list that grows in a cell. -/
open Go.Proofs
namespace Go.PI
open IM
set_option maxRecDepth 20000
set_option maxHeartbeats 1000000
variable (S : FuncId → Option (List AV → Heap → Option (AV × Heap)))
theorem load_c {C : Ctx} {σ : List StB} {j o : Nat} {t t' : TypeId} {i : TI} {cs : List PV} {v : PV} (hc : contOf σ j = some (t', cs)) (hi : C.ty t = some i) (hv : partP i cs o = some v) : ploadE C σ t (.optr j o) = some v := by
  unfold ploadE
  rw [hi]
  simp only [hc]
  exact hv
theorem fn60 : ctx.fn 60 = some c60 := by kernel_rfl
def Opt : Opn := ⟨fun t => Nat.beq t 22, fun t => Nat.beq t 22 || Nat.beq t 3, false⟩
theorem placesF_ct (hS : OldO S) {w : Nat} : Ct (ctx.plus S) 106 [pu w] 1 fun r => r = .fnc 138 [.lptr [pu w]] := by
  refine ct_of (hS 106 (by decide)) fn106 ?_
  refine ⟨by omega, ?_⟩
  exact endf (fz_fnc1 rfl) rfl
def ptw (w : Nat) (bel : Nat → Nat) : Nat → List Int
  | 0 => []
  | n + 1 => ptw w bel n ++ if w.testBit (63 - n) = true ∧ bel (63 - n) < 63 - n then [((63 - n : Nat) : Int) - bel (63 - n)] else []
theorem ptw_len (w : Nat) (bel : Nat → Nat) : ∀ n, (ptw w bel n).length ≤ n
  | 0 => Nat.le_refl _
  | n + 1 => by
    show (ptw w bel n ++ _).length ≤ n + 1
    rw [List.length_append]
    have := ptw_len w bel n
    split <;> simp <;> omega
theorem ptw_zero {w L : Nat} {bel : Nat → Nat} (hw : w < 2 ^ L) : ∀ n, n + L ≤ 64 → ptw w bel n = []
  | 0, _ => rfl
  | n + 1, h => by
    show ptw w bel n ++ _ = []
    rw [ptw_zero hw n (by omega), if_neg]
    · rfl
    · intro hc
      have := Nat.testBit_lt_two_pow (Nat.lt_of_lt_of_le hw (Nat.pow_le_pow_right (by omega) (show L ≤ 63 - n by omega)))
      rw [hc.1] at this
      cases this
theorem ptw_at {w p : Nat} {bel : Nat → Nat} (hp : p < 64) : ptw w bel (64 - p) = ptw w bel (64 - (p + 1)) ++ if w.testBit p = true ∧ bel p < p then [(p : Int) - bel p] else [] := by
  have e : 64 - p = (64 - (p + 1)) + 1 := by omega
  have e2 : 63 - (64 - (p + 1)) = p := by omega
  rw [e]
  show ptw w bel (64 - (p + 1)) ++ _ = _
  rw [e2]
theorem gr_cells {v : PV} {σ : List StB} {Xs : List Int} (h : Gr pn 3 v σ Xs) : v.pcells = [v] ∧ v.one = true := by
  rcases h with ⟨rfl, -⟩ | ⟨j, ty, rfl, -⟩ | ⟨j, rfl, -⟩ <;> exact ⟨rfl, rfl⟩
theorem rng_pl (hS : OldO S) {w d c k : Nat} {x : LpD} {σ : List StB} {K : Ex → List StB → Nat → Prop} (Inv : LpD → Nat → List StB → Prop) (hw : w < 2 ^ 64) (hk : k + 2 + 64 * d ≤ c)
    (h0 : ∀ L, L ≤ 64 → w < 2 ^ L → Inv x L (σ ++ [.lp x])) (hskip : ∀ (p : Nat) (σ' : List StB), w.testBit p = false → Inv x (p + 1) σ' → Inv x p σ')
    (hy : ∀ (p : Nat) (σ' : List StB), p < 64 → w.testBit p = true → Inv x (p + 1) σ' → Cy (ctx.plus S) σ.length [pn p] σ' d fun b σ2 => b = true ∧ Inv x p σ2)
    (hK : ∀ σ', Inv x 0 σ' → rngE σ' σ.length fun e => K e (σ'.set σ.length .dead) (k + 2 + 64 * d)) : RngK none (ctx.plus S) c (.fnc 138 [.lptr [pu w]]) x σ k K :=
  ⟨138, [.lptr [pu w]], .inr rfl, rfl, [], show ∃ d R, _ ∧ _ ∧ _ from ⟨64 * d, (fun r σ' => r = .tup [] ∧ (Inv x 0 σ' ∨ False)), hk, places_cm S hS hw (Inv x) (fun _ => False) (fun p σ' h1 h2 h3 => (hy p σ' h1 h2 h3).post (Nat.le_refl _) fun r σ2 h => .inl h) hskip h0, fun r σ' h => by
    rcases h.2 with h | h
    · exact hK σ' h
    · exact h.elim⟩⟩
def InvP (w : Nat) (bel : Nat → Nat) (x : LpD) (p : Nat) (σ : List StB) : Prop :=
  ∃ v, σ[0]? = some (.live 71 [pu w]) ∧ σ[1]? = some (.liv 22 [v]) ∧ σ[2]? = some (.lp x) ∧ Gr pn 3 v σ (ptw w bel (64 - p)) ∧ ∀ j, blkOf v = some j → 3 ≤ j
theorem part_ct (hS : OldO S) {w : Nat} {bel : Nat → Nat} (hw : w < 2 ^ 64) (hB : ∀ p, p < 64 → w.testBit p = true → bel p ≤ 64 ∧ Ct (ctx.plus S) 108 [pu w, pn (-1), pn p] 0 fun r => r = pn (bel p : Nat)) :
    Ct (ctx.plus S) 60 [pu w] 1000 fun r => r = pIs (ptw w bel 64) := by
  refine ctO_of Opt (hS 60 (by decide)) fn60 ?_
  refine ⟨by omega, ?_⟩
  refine ⟨by omega, ?_⟩
  refine ⟨_, load_c rfl rfl rfl, ?_⟩
  refine callq rfl (placesF_ct S hS) (by omega) ?_
  rintro _ rfl
  refine rng_pl S hS (d := 2) (fun x p σ' => InvP w bel x p σ') hw (by omega) ?_ ?_ ?_ ?_
  · intro L hL hwL
    refine ⟨.nils, rfl, rfl, rfl, ?_, fun j h => by cases h⟩
    rw [ptw_zero hwL _ (by omega)]
    exact Gr.nil
  · rintro p σ' hb ⟨v, g0, g1, g2, hg, hv⟩
    refine ⟨v, g0, g1, g2, ?_, hv⟩
    rcases Nat.lt_or_ge p 64 with hp | hp
    · rw [ptw_at hp, if_neg (fun hc => by rw [hb] at hc; exact absurd hc.1 (by decide)), List.append_nil]
      exact hg
    · rw [show 64 - p = 64 - (p + 1) by omega]
      exact hg
  · rintro p σ' hp hb ⟨v, g0, g1, g2, hg, hv⟩
    obtain ⟨hbp, hBp⟩ := hB p hp hb
    have hpt := ptw_at (w := w) (bel := bel) hp
    have hpl := ptw_len w bel (64 - (p + 1))
    have l2 : 2 < σ'.length := (List.getElem?_eq_some_iff.1 g2).1
    have b0 : ∀ y, (σ'.set 2 y)[0]? = some (.live 71 [pu w]) := fun y => by rw [List.getElem?_set_ne (by omega)]; exact g0
    have b1 : ∀ y, (σ'.set 2 y)[1]? = some (.liv 22 [v]) := fun y => by rw [List.getElem?_set_ne (by omega)]; exact g1
    have b2 : ∀ y, (σ'.set 2 y)[2]? = some y := fun y => List.getElem?_set_self l2
    have bg : ∀ y, Gr pn 3 v (σ'.set 2 y) (ptw w bel (64 - (p + 1))) := fun y => hg.keep fun j b hj hb => by have := hv j hj; rw [List.getElem?_set_ne (by omega)]; exact hb
    refine cy_of Opt g2 rfl rfl fun c k hc => ?_
    refine ⟨rfl, _, g2, rfl, ?_⟩
    refine ⟨_, load_c (contOf_live (b0 _)) rfl rfl, ?_⟩
    refine callq rfl hBp (show k + 0 ≤ c by omega) ?_
    rintro _ rfl
    refine ⟨⟨by omega, by omega⟩, ?_⟩
    refine ⟨fun hgt => ?_, fun hle => ?_⟩
    · refine ⟨_, load_liv (b1 _) rfl rfl, ?_⟩
      refine ⟨show k + 0 < c by omega, part1 fzI ⟨[pn ((p : Int) - bel p)], rfl, ?_⟩⟩
      refine appG (f := pn) (e := 3) (y := (p : Int) - bel p) (bg _).push push_cont rfl rfl rfl rfl (by kernel_rfl) rfl rfl (by omega) (show k + 0 + 1 < c by omega) fun v' σ3 hv' hk3 hb3 => ?_
      obtain ⟨pc1, pc2⟩ := gr_cells hv'
      have c0 := hk3 0 _ (fun e => by have := hv 0 e; omega) (push_old (b0 _))
      have c1 := hk3 1 _ (fun e => by have := hv 1 e; omega) (push_old (b1 _))
      have c2 := hk3 2 _ (fun e => by have := hv 2 e; omega) (push_old (b2 _))
      have l3 : 2 < σ3.length := (List.getElem?_eq_some_iff.1 c2).1
      refine ⟨_, _, c1, ⟨by rw [pc1]; rfl, Nat.le_refl 1, by rw [pc1]; simp [pones, pc2]⟩, _, (by rw [pc1]; rfl : pspl [v] 0 v'.pcells = [v']), _, rfl, ?_⟩
      have hge3 : ∀ j, blkOf v' = some j → 3 ≤ j := fun j hj => by rw [hb3] at hj; cases hj; rw [List.length_append, List.length_set]; show 3 ≤ σ'.length + 1; omega
      have keep2 : ∀ (y : StB) (j : Nat) (b : StB), j ≠ 1 → j ≠ 2 → σ3[j]? = some b → ((σ3.set 1 (.liv 22 [v'])).set 2 y)[j]? = some b := fun y j b h1 h2 hb => by
        rw [List.getElem?_set_ne (Ne.symm h2), List.getElem?_set_ne (Ne.symm h1)]; exact hb
      refine ⟨_, (show (σ3.set 1 (.liv 22 [v']))[2]? = some _ by rw [List.getElem?_set_ne (by omega)]; exact c2), by dsimp only; omega, rfl, v', ?_, ?_, ?_, ?_, hge3⟩
      · exact keep2 _ 0 _ (by omega) (by omega) c0
      · show ((σ3.set 1 (.liv 22 [v'])).set 2 _)[1]? = _
        rw [List.getElem?_set_ne (by omega), List.getElem?_set_self (by omega)]
      · exact List.getElem?_set_self (show 2 < (σ3.set 1 (StB.liv 22 [v'])).length by rw [List.length_set]; exact l3)
      · rw [hpt, if_pos ⟨hb, by omega⟩]
        exact hv'.keep fun j b hj hb => keep2 _ j b (by have := hge3 j hj; omega) (by have := hge3 j hj; omega) hb
    · refine ⟨_, b2 _, show k + 0 ≤ k + 2 by omega, rfl, v, ?_, ?_, ?_, ?_, hv⟩
      · show ((σ'.set 2 _).set 2 _)[0]? = _
        rw [List.getElem?_set_ne (by omega)]
        exact b0 _
      · show ((σ'.set 2 _).set 2 _)[1]? = _
        rw [List.getElem?_set_ne (by omega)]
        exact b1 _
      · exact List.getElem?_set_self (show 2 < (σ'.set 2 _).length by rw [List.length_set]; exact l2)
      · rw [hpt, if_neg (fun hc => by have := hc.2; omega), List.append_nil]
        exact (bg _).keep fun j b hj hb => by
          have := hv j hj
          show ((σ'.set 2 _).set 2 _)[j]? = _
          rw [List.getElem?_set_ne (by omega)]
          exact hb
  · rintro σ' ⟨v, g0, g1, g2, hg, hv⟩
    refine ⟨_, g2, show LoopState.ready ≠ .busy from (fun h => by cases h), ?_⟩
    have l2 : 2 < σ'.length := (List.getElem?_eq_some_iff.1 g2).1
    have d1 : ∀ y, (σ'.set 2 y)[1]? = some (.liv 22 [v]) := fun y => by rw [List.getElem?_set_ne (by omega)]; exact g1
    refine ⟨_, load_liv (d1 _) rfl rfl, ?_⟩
    have hg2 : ∀ y, Gr pn 3 v (σ'.set 2 y) (ptw w bel 64) := fun y => hg.keep fun j b hj hb => by have := hv j hj; rw [List.getElem?_set_ne (by omega)]; exact hb
    obtain ⟨σ4, hf4⟩ := (hg2 .dead).fz
    exact endf hf4 rfl
end Go.PI
