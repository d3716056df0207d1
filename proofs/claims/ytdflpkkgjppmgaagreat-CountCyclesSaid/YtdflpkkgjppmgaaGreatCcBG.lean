/- Own work of the verifier: CqB CqC CyC CyD CyE CySq CqD. -/
import Derived.Test.YtdflpkkgjppmgaaGreatCcBF
set_option linter.all false
set_option exponentiation.threshold 3000
set_option linter.deprecated false
/- FACTORIALS AND CENTRALIZERS, of the reference. -/
open Go.Proofs
namespace Go.PI
open IM
set_option maxRecDepth 20000
set_option maxHeartbeats 4000000
variable (S : FuncId → Option (List AV → Heap → Option (AV × Heap)))
theorem fn64 : ctx.fn 64 = some c64 := by kernel_rfl
theorem fn26 : ctx.fn 26 = some c26 := by kernel_rfl
theorem fn27 : ctx.fn 27 = some c27 := by kernel_rfl
theorem digits_one : digits 1 = [1] := by decide
theorem one_pI : PV.lst 1 [pn 1] = pI 1 := by
  unfold pI
  rw [digits_one]
  rfl
theorem dig_18 {X : Int} (h : 0 ≤ X ∧ X ≤ 2432902008176640000) : (digits X).length ≤ 3 := len_of (k := 3) (by have : pw 3 = 1000000000000000000000000 := (by decide); omega)
theorem dig_20 {X : Int} (h : 0 ≤ X ∧ X ≤ 400) : (digits X).length ≤ 1 := len_of (k := 1) (by have : pw 1 = 100000000 := (by decide); omega)
theorem rfactorial_ct (hS : OldO S) {n : Nat} (hn : n ≤ 20) : Ct (ctx.plus S) 64 [pn n] 500000 fun r => r = pI (fac n : Nat) := by
  refine ct_of (hS 64 (by decide)) fn64 ?_
  refine ⟨by omega, part1 fzI ⟨[pn 1], rfl, ?_⟩⟩
  refine ⟨fun m s => ∃ (k b : Nat) (σ : List StB) (T : List PV), s = ⟨T, σ, b⟩ ∧ Gt T 16 [(0, pn n), (3, pI (fac (k + 1) : Nat)), (4, pn (k + 2 : Nat))] ∧ m = n - (k + 1) ∧ (k + 1 ≤ n ∨ k = 0) ∧ b ≤ 1 + 20001 * k, ⟨_, ⟨_, frzS_tmp (i := 3) (v := .own 0 0 1 1 1) (by rfl) (by exact ⟨3, [pn 1], [pn 1], rfl, ⟨by decide, by decide⟩, rfl, rfl⟩), 0, _, _, _, rfl, ⟨rfl, rfl, by show PV.lst 1 [pn 1] = pI _; exact one_pI, rfl, trivial⟩, rfl, .inr rfl, by omega⟩⟩, ?_⟩
  rintro m s ⟨k, b, σ, T, rfl, hT, hm, hk, hb⟩
  obtain ⟨J, rfl⟩ := gt_open hT
  clear hT
  refine ⟨fun hlt => ?_, fun hge => ?_⟩
  · have hf := fac_20 (n := k + 1) (by omega)
    have hf2 := fac_20 (n := k + 2) (by omega)
    have d1 := dig_18 (X := ((fac (k + 1) : Nat) : Int)) (by omega)
    have d2 := dig_20 (X := ((k + 2 : Nat) : Int)) (by omega)
    refine ⟨by omega, part1 fzI ⟨[pn (k + 2 : Nat)], rfl, ?_⟩⟩
    refine cal2 fzL (fz_own (n := 1) (c := 1) (cs' := [pn (k + 2 : Nat)]) push_cont (Nat.le_refl 1) (by decide) rfl) (rmuls_ct S (oldR_of S hS) (xs := digits (fac (k + 1) : Nat)) (ys := [((k + 2 : Nat) : Int)]) (X := (fac (k + 1) : Nat)) (Y := (k + 2 : Nat)) (Rw.of (by omega)) (Rw.one (by omega)) (by omega) (by simp) (by omega)) (by omega) ?_
    rintro _ rfl
    refine ⟨⟨by omega, by omega⟩, ?_⟩
    exact ⟨_, by omega, ci ⟨k + 1, _, _, _, rfl, ⟨rfl, rfl, by show pI _ = pI _; congr 1, by show pn _ = pn _; norm_cast, trivial⟩, rfl, .inl (by omega), by omega⟩⟩
  · refine endq rfl ?_
    show pI (fac (k + 1) : Nat) = pI (fac n : Nat)
    congr 2
    rcases hk with hk | rfl
    · rw [show n = k + 1 by omega]
    · rcases (show n = 0 ∨ n = 1 by omega) with h0 | h0
      · subst h0; rfl
      · subst h0; rfl
theorem rcentral_ct (hS : OldO S) {xs : List Int} (h : ∀ x ∈ xs, 1 ≤ x) (hs : sm xs ≤ 20) : Ct (ctx.plus S) 26 [pIs xs] 1000000 fun r => r = pI (cen xs xs.length) := by
  have hlen : (xs.length : Int) ≤ 20 := Int.le_trans (sm_ge h) hs
  have hst : ∀ i, sm (xs.take i) ≤ 20 := fun i => Int.le_trans (sm_rest (fun x hx => by have := h x hx; omega) i) hs
  refine ct_of (hS 26 (by decide)) fn26 ?_
  refine ⟨by omega, part1 fzI ⟨[pn 1], rfl, ?_⟩⟩
  refine ⟨fun m s => ∃ (i b : Nat) (σ : List StB) (T : List PV), s = ⟨T, σ, b⟩ ∧ Gt T 39 [(0, pIs xs), (3, pI (cen xs i)), (4, pn (eqn xs i)), (5, pn i)] ∧ m = xs.length - i ∧ i ≤ xs.length ∧ b ≤ 1 + 20001 * i, ⟨_, ⟨_, frzS_tmp (i := 3) (v := .own 0 0 1 1 1) (by rfl) (by exact ⟨3, [pn 1], [pn 1], rfl, ⟨by decide, by decide⟩, rfl, rfl⟩), 0, _, _, _, rfl, ⟨rfl, rfl, by show PV.lst 1 [pn 1] = pI _; exact one_pI, rfl, rfl, trivial⟩, rfl, Nat.zero_le _, by omega⟩⟩, ?_⟩
  rintro m s ⟨i, b, σ, T, rfl, hT, hm, hi, hb⟩
  obtain ⟨J, rfl⟩ := gt_open hT
  clear hT
  refine ⟨fun hlt => ?_, fun hge => ?_⟩
  · obtain ⟨x, hx⟩ := xs_get (xs := xs) (i := i) (by omega)
    obtain ⟨c1, c2⟩ := cen_bd h (i := i) (by omega)
    obtain ⟨c3, c4⟩ := cen_bd h (i := i + 1) (by omega)
    have hx1 := h x (List.mem_of_getElem? hx)
    have e1 : eqn xs (i + 1) * x ≤ 20 := by have := eqn_bd h (i := i) (by omega); rw [getD_of hx] at this; exact Int.le_trans this (hst (i + 1))
    have e2 := eqn_pos xs i
    have hy : x * (eqn xs (i + 1) : Int) = eqn xs (i + 1) * x := Int.mul_comm _ _
    have e3 : cen xs (i + 1) = cen xs i * (x * (eqn xs (i + 1) : Int)) := by show cen xs i * (xs.getD i 0 * _) = _; rw [getD_of hx]
    have hs0 : ∀ j, 0 ≤ sm (xs.take j) := fun j => by
      have := sm_ge (xs := xs.take j) fun y hy => h y (List.mem_of_mem_take hy)
      omega
    have f1 := fac_20 (n := (sm (xs.take i)).toNat) (by have := hst i; omega)
    have f2 := fac_20 (n := (sm (xs.take (i + 1))).toNat) (by have := hst (i + 1); omega)
    have hx2 : 1 ≤ x * (eqn xs (i + 1) : Int) := by
      have : (1 : Int) * 1 ≤ x * (eqn xs (i + 1) : Int) := Int.mul_le_mul hx1 (by omega) (by omega) (by omega)
      omega
    have hbig : cen xs i * (x * (eqn xs (i + 1) : Int)) ≤ 2432902008176640000 := by rw [← e3]; omega
    have d1 := dig_18 (X := cen xs i) (by omega)
    have d2 := dig_20 (X := x * (eqn xs (i + 1) : Int)) (by omega)
    have e6 : (eqn xs (i + 1) : Int) ≤ 20 := by
      have : (eqn xs (i + 1) : Int) * 1 ≤ (eqn xs (i + 1) : Int) * x := Int.mul_le_mul_of_nonneg_left hx1 (by omega)
      omega
    have hlim : -100000000 < x * (eqn xs (i + 1) : Int) ∧ x * (eqn xs (i + 1) : Int) < 100000000 := by omega
    refine ⟨by kernel_rfl, ?_⟩
    refine ⟨fun h0 => ?_, fun h0 => ?_⟩
    · have hi0 : 0 < i := by omega
      obtain ⟨y, hy⟩ := xs_get (xs := xs) (i := i - 1) (by omega)
      refine ⟨⟨⟨by omega, by omega⟩, len_map_le (by omega)⟩, ?_⟩
      refine ⟨_, ld (at_map hx) (by show _ * 1 = i; omega), rfl, ?_⟩
      refine ⟨⟨by omega, by omega⟩, ?_⟩
      refine ⟨⟨⟨by omega, by omega⟩, len_map_le (by omega)⟩, ?_⟩
      refine ⟨_, ld (at_map hy) (by show _ * 1 = i - 1; omega), rfl, ?_⟩
      refine ⟨fun he => ?_, fun hne => ?_⟩
      · have e4 : eqn xs (i + 1) = eqn xs i + 1 := by
          show (if 0 < i ∧ xs.getD i 0 ≠ xs.getD (i - 1) 0 then 1 else eqn xs i + 1) = _
          rw [if_neg]
          rw [getD_of hx, getD_of hy]
          exact fun hh => hh.2 he
        refine ⟨⟨by omega, by omega⟩, ?_⟩
        have e5 : (eqn xs i : Int) + 1 = (eqn xs (i + 1) : Nat) := by omega
        rw [e5]
        clear e5 e4 he h0 hi0
        refine ⟨⟨⟨by omega, by omega⟩, len_map_le (by omega)⟩, ?_⟩
        refine ⟨_, ld (at_map hx) (by show _ * 1 = i; omega), ?_⟩
        refine ⟨by unfold In64; omega, ?_⟩
        refine ⟨by omega, part1 fzI ⟨[pn (x * (eqn xs (i + 1) : Nat))], rfl, ?_⟩⟩
        refine cal2 fzL (fz_own (n := 1) (c := 1) (cs' := [pn (x * (eqn xs (i + 1) : Nat))]) push_cont (Nat.le_refl 1) (by decide) rfl) (rmuls_ct S (oldR_of S hS) (xs := digits (cen xs i)) (ys := [x * (eqn xs (i + 1) : Nat)]) (X := cen xs i) (Y := x * (eqn xs (i + 1) : Nat)) (Rw.of (by omega)) (Rw.one hlim) (by omega) (by simp) (by omega)) (by omega) ?_
        rintro _ rfl
        refine ⟨⟨by omega, by omega⟩, ?_⟩
        exact ⟨_, by omega, ci ⟨i + 1, _, _, _, rfl, ⟨rfl, rfl, by show pI _ = pI _; rw [e3], rfl, by show pn _ = pn _; norm_cast, trivial⟩, rfl, by omega, by omega⟩⟩
      · have e4 : eqn xs (i + 1) = 1 := by
          show (if 0 < i ∧ xs.getD i 0 ≠ xs.getD (i - 1) 0 then 1 else eqn xs i + 1) = _
          rw [if_pos]
          rw [getD_of hx, getD_of hy]
          exact ⟨hi0, hne⟩
        have e5 : (1 : Int) = (eqn xs (i + 1) : Nat) := by omega
        rw [e5]
        clear e4 hne h0 hi0
        refine ⟨⟨⟨by omega, by omega⟩, len_map_le (by omega)⟩, ?_⟩
        refine ⟨_, ld (at_map hx) (by show _ * 1 = i; omega), ?_⟩
        refine ⟨by unfold In64; omega, ?_⟩
        refine ⟨by omega, part1 fzI ⟨[pn (x * (eqn xs (i + 1) : Nat))], rfl, ?_⟩⟩
        refine cal2 fzL (fz_own (n := 1) (c := 1) (cs' := [pn (x * (eqn xs (i + 1) : Nat))]) push_cont (Nat.le_refl 1) (by decide) rfl) (rmuls_ct S (oldR_of S hS) (xs := digits (cen xs i)) (ys := [x * (eqn xs (i + 1) : Nat)]) (X := cen xs i) (Y := x * (eqn xs (i + 1) : Nat)) (Rw.of (by omega)) (Rw.one hlim) (by omega) (by simp) (by omega)) (by omega) ?_
        rintro _ rfl
        refine ⟨⟨by omega, by omega⟩, ?_⟩
        exact ⟨_, by omega, ci ⟨i + 1, _, _, _, rfl, ⟨rfl, rfl, by show pI _ = pI _; rw [e3], rfl, by show pn _ = pn _; rw [← e5]; norm_cast, trivial⟩, rfl, by omega, by omega⟩⟩
    · have hi0 : i = 0 := by omega
      have e4 : eqn xs (i + 1) = 1 := by subst hi0; rfl
      have e5 : (1 : Int) = (eqn xs (i + 1) : Nat) := by omega
      rw [e5]
      clear e4 h0 hi0
      refine ⟨⟨⟨by omega, by omega⟩, len_map_le (by omega)⟩, ?_⟩
      refine ⟨_, ld (at_map hx) (by show _ * 1 = i; omega), ?_⟩
      refine ⟨by unfold In64; omega, ?_⟩
      refine ⟨by omega, part1 fzI ⟨[pn (x * (eqn xs (i + 1) : Nat))], rfl, ?_⟩⟩
      refine cal2 fzL (fz_own (n := 1) (c := 1) (cs' := [pn (x * (eqn xs (i + 1) : Nat))]) push_cont (Nat.le_refl 1) (by decide) rfl) (rmuls_ct S (oldR_of S hS) (xs := digits (cen xs i)) (ys := [x * (eqn xs (i + 1) : Nat)]) (X := cen xs i) (Y := x * (eqn xs (i + 1) : Nat)) (Rw.of (by omega)) (Rw.one hlim) (by omega) (by simp) (by omega)) (by omega) ?_
      rintro _ rfl
      refine ⟨⟨by omega, by omega⟩, ?_⟩
      exact ⟨_, by omega, ci ⟨i + 1, _, _, _, rfl, ⟨rfl, rfl, by show pI _ = pI _; rw [e3], rfl, by show pn _ = pn _; rw [← e5]; norm_cast, trivial⟩, rfl, by omega, by omega⟩⟩
  · have : i = xs.length := by omega
    subst this
    exact endq rfl rfl
theorem rclass_ct (hS : OldO S) {xs : List Int} (h : ∀ x ∈ xs, 1 ≤ x) (hs : sm xs ≤ 20) (hf : Few xs) : Ct (ctx.plus S) 27 [pIs xs] 30000000 fun r => r = pI ((fac (sm xs).toNat : Nat) / cen xs xs.length) := by
  have h0 : 0 ≤ sm xs := by have := sm_ge h; omega
  obtain ⟨n, hn⟩ : ∃ n : Nat, sm xs = n := ⟨(sm xs).toNat, by omega⟩
  obtain ⟨c1, c2⟩ := cen_bd h (i := xs.length) (Nat.le_refl _)
  rw [List.take_of_length_le (Nat.le_refl _), hn] at c2
  have f2 := fac_20 (n := n) (by omega)
  have c3 : cen xs xs.length ≤ (fac n : Nat) := c2
  have d1 := dig_18 (X := (fac n : Nat)) (by omega)
  have d2 := dig_18 (X := cen xs xs.length) (by omega)
  refine ct_of (hS 27 (by decide)) fn27 ?_
  refine callq rfl (rsize'_ct S hS hf) (by omega) ?_
  rintro _ rfl
  rw [hn]
  refine callq rfl (rfactorial_ct S hS (by omega)) (by omega) ?_
  rintro _ rfl
  refine callq rfl (rcentral_ct S hS h hs) (by omega) ?_
  rintro _ rfl
  refine callq rfl (rquot_ct S hS (X := (fac n : Nat)) (Y := cen xs xs.length) (Rw.of (by omega)) (Rw.of (by omega)) (by omega) (by omega) (by omega)) (by omega) ?_
  rintro _ rfl
  exact endq rfl rfl
end Go.PI
/- FACTORIALS AND CENTRALIZERS, of the program. -/
open Go.Proofs
namespace Go.PI
open IM
set_option maxRecDepth 20000
set_option maxHeartbeats 4000000
variable (S : FuncId → Option (List AV → Heap → Option (AV × Heap)))
theorem fn67 : ctx.fn 67 = some c67 := by kernel_rfl
theorem fn68 : ctx.fn 68 = some c68 := by kernel_rfl
theorem fn103 : ctx.fn 103 = some c103 := by kernel_rfl
theorem fn54 : ctx.fn 54 = some c54 := by kernel_rfl
theorem fn23 : ctx.fn 23 = some c23 := by kernel_rfl
theorem fn24 : ctx.fn 24 = some c24 := by kernel_rfl
theorem central_ct (hS : OldO S) {xs : List Int} (h : ∀ x ∈ xs, 1 ≤ x) (hs : sm xs ≤ 20) : Ct (ctx.plus S) 67 [pIs xs] 0 fun r => r = pn (cen xs xs.length) := by
  have hlen : (xs.length : Int) ≤ 20 := Int.le_trans (sm_ge h) hs
  have hst : ∀ i, sm (xs.take i) ≤ 20 := fun i => Int.le_trans (sm_rest (fun x hx => by have := h x hx; omega) i) hs
  refine ct_of (hS 67 (by decide)) fn67 ?_
  refine ⟨fun m s => ∃ (i : Nat) (T : List PV), s = ⟨T, [], 0⟩ ∧ Gt T 34 [(0, pIs xs), (3, pn (cen xs i)), (4, pn (eqn xs i)), (7, pIs xs), (8, pn xs.length), (9, pn i)] ∧ m = xs.length - i ∧ i ≤ xs.length, ⟨_, ci ⟨0, _, rfl, ⟨rfl, rfl, rfl, rfl, rfl, rfl, rfl, trivial⟩, rfl, Nat.zero_le _⟩⟩, ?_⟩
  rintro m s ⟨i, T, rfl, hT, hm, hi⟩
  obtain ⟨J, rfl⟩ := gt_open hT
  clear hT
  refine ⟨fun hlt => ?_, fun hge => ?_⟩
  · obtain ⟨x, hx⟩ := xs_get (xs := xs) (i := i) (by omega)
    obtain ⟨c1, c2⟩ := cen_bd h (i := i) (by omega)
    obtain ⟨c3, c4⟩ := cen_bd h (i := i + 1) (by omega)
    have hx1 := h x (List.mem_of_getElem? hx)
    have e1 : eqn xs (i + 1) * x ≤ 20 := by have := eqn_bd h (i := i) (by omega); rw [getD_of hx] at this; exact Int.le_trans this (hst (i + 1))
    have e2 := eqn_pos xs i
    have hy : x * (eqn xs (i + 1) : Int) = eqn xs (i + 1) * x := Int.mul_comm _ _
    have e3 : cen xs (i + 1) = cen xs i * (x * (eqn xs (i + 1) : Int)) := by show cen xs i * (xs.getD i 0 * _) = _; rw [getD_of hx]
    have hs0 : ∀ j, 0 ≤ sm (xs.take j) := fun j => by
      have := sm_ge (xs := xs.take j) fun y hy => h y (List.mem_of_mem_take hy)
      omega
    have f1 := fac_20 (n := (sm (xs.take i)).toNat) (by have := hst i; omega)
    have f2 := fac_20 (n := (sm (xs.take (i + 1))).toNat) (by have := hst (i + 1); omega)
    have hx2 : 1 ≤ x * (eqn xs (i + 1) : Int) := by
      have : (1 : Int) * 1 ≤ x * (eqn xs (i + 1) : Int) := Int.mul_le_mul hx1 (by omega) (by omega) (by omega)
      omega
    have hbig : cen xs i * (x * (eqn xs (i + 1) : Int)) ≤ 2432902008176640000 := by rw [← e3]; omega
    have hbig0 : 1 ≤ cen xs i * (x * (eqn xs (i + 1) : Int)) := by rw [← e3]; omega
    have e6 : (eqn xs (i + 1) : Int) ≤ 20 := by
      have : (eqn xs (i + 1) : Int) * 1 ≤ (eqn xs (i + 1) : Int) * x := Int.mul_le_mul_of_nonneg_left hx1 (by omega)
      omega
    have hx3 : x ≤ 20 := by
      have : (1 : Int) * x ≤ (eqn xs (i + 1) : Int) * x := Int.mul_le_mul_of_nonneg_right (by omega) (by omega)
      omega
    refine ⟨⟨⟨by omega, by omega⟩, len_map_le (by omega)⟩, ?_⟩
    refine ⟨_, ld (at_map hx) (by show _ * 1 = i; omega), ?_⟩
    refine ⟨fun h0 => ?_, fun h0 => ?_⟩
    · have hi0 : 0 < i := by omega
      obtain ⟨y, hy⟩ := xs_get (xs := xs) (i := i - 1) (by omega)
      refine ⟨⟨by omega, by omega⟩, ?_⟩
      refine ⟨⟨⟨by omega, by omega⟩, len_map_le (by omega)⟩, ?_⟩
      refine ⟨_, ld (at_map hy) (by show _ * 1 = i - 1; omega), ?_⟩
      refine ⟨fun hne => ?_, fun he => ?_⟩
      · have e4 : eqn xs (i + 1) = 1 := by
          show (if 0 < i ∧ xs.getD i 0 ≠ xs.getD (i - 1) 0 then 1 else eqn xs i + 1) = _
          rw [if_pos]
          rw [getD_of hx, getD_of hy]
          exact ⟨hi0, hne⟩
        have e5 : (0 : Int) + 1 = (eqn xs (i + 1) : Nat) := by omega
        refine ⟨⟨by omega, by omega⟩, ?_⟩
        rw [e5]
        refine ⟨by unfold In64; omega, ?_⟩
        refine ⟨by unfold In64; omega, ?_⟩
        refine ⟨⟨by omega, by omega⟩, ?_⟩
        exact ⟨_, by omega, ci ⟨i + 1, _, rfl, ⟨rfl, rfl, by show pn _ = pn _; rw [e3], rfl, rfl, rfl, by show pn _ = pn _; norm_cast, trivial⟩, rfl, by omega⟩⟩
      · have e4 : eqn xs (i + 1) = eqn xs i + 1 := by
          show (if 0 < i ∧ xs.getD i 0 ≠ xs.getD (i - 1) 0 then 1 else eqn xs i + 1) = _
          rw [if_neg]
          rw [getD_of hx, getD_of hy]
          exact fun hh => hh.2 (by omega)
        have e5 : (eqn xs i : Int) + 1 = (eqn xs (i + 1) : Nat) := by omega
        refine ⟨⟨by omega, by omega⟩, ?_⟩
        rw [e5]
        refine ⟨by unfold In64; omega, ?_⟩
        refine ⟨by unfold In64; omega, ?_⟩
        refine ⟨⟨by omega, by omega⟩, ?_⟩
        exact ⟨_, by omega, ci ⟨i + 1, _, rfl, ⟨rfl, rfl, by show pn _ = pn _; rw [e3], rfl, rfl, rfl, by show pn _ = pn _; norm_cast, trivial⟩, rfl, by omega⟩⟩
    · have hi0 : i = 0 := by omega
      have e4 : eqn xs (i + 1) = eqn xs i + 1 := by subst hi0; rfl
      have e5 : (eqn xs i : Int) + 1 = (eqn xs (i + 1) : Nat) := by omega
      refine ⟨⟨by omega, by omega⟩, ?_⟩
      rw [e5]
      refine ⟨by unfold In64; omega, ?_⟩
      refine ⟨by unfold In64; omega, ?_⟩
      refine ⟨⟨by omega, by omega⟩, ?_⟩
      exact ⟨_, by omega, ci ⟨i + 1, _, rfl, ⟨rfl, rfl, by show pn _ = pn _; rw [e3], rfl, rfl, rfl, by show pn _ = pn _; norm_cast, trivial⟩, rfl, by omega⟩⟩
  · have : i = xs.length := by omega
    subst this
    exact endq rfl rfl
theorem class_ct (hS : OldO S) {xs : List Int} (h : ∀ x ∈ xs, 1 ≤ x) (hs : sm xs ≤ 20) (hf : Few xs) : Ct (ctx.plus S) 68 [pIs xs] 0 fun r => r = pn ((fac (sm xs).toNat : Nat) / cen xs xs.length) := by
  have h0 : 0 ≤ sm xs := by have := sm_ge h; omega
  obtain ⟨n, hn⟩ : ∃ n : Nat, sm xs = n := ⟨(sm xs).toNat, by omega⟩
  obtain ⟨c1, c2⟩ := cen_bd h (i := xs.length) (Nat.le_refl _)
  have f2 := fac_20 (n := n) (by omega)
  refine ct_of (hS 68 (by decide)) fn68 ?_
  refine callq rfl (size'_ct S hS hf) (by omega) ?_
  rintro _ rfl
  rw [hn]
  refine callq rfl (factorial_ct S hS (by omega)) (by omega) ?_
  rintro _ rfl
  refine callq rfl (central_ct S hS h hs) (by omega) ?_
  rintro _ rfl
  have e : ((fac n : Nat) : Int).tdiv (cen xs xs.length) = (fac n : Nat) / cen xs xs.length := Int.tdiv_eq_ediv_of_nonneg (by omega)
  have q1 : 0 ≤ ((fac n : Nat) : Int) / cen xs xs.length := Int.ediv_nonneg (by omega) (by omega)
  have q2 : ((fac n : Nat) : Int) / cen xs xs.length ≤ (fac n : Nat) := Int.ediv_le_self _ (by omega)
  refine ⟨⟨by omega, by rw [e]; unfold In64; omega⟩, ?_⟩
  rw [e]
  exact endq rfl rfl
theorem num1_ct (hS : OldO S) {xs : List Int} {g d : Nat} {v : Int} (hg : Ct (ctx.plus S) g [pIs xs] d fun r => r = pn v) (hv : In64 v) : Ct (ctx.plus S) 103 [pIs xs, .lptr [.fn g]] (d + 12) fun r => r = pI v := by
  refine ct_of (hS 103 (by decide)) fn103 ?_
  refine ⟨_, rfl, ?_⟩
  refine callq rfl hg (by omega) ?_
  rintro _ rfl
  refine callq rfl (of_ct S (old_of S hS) (hS 78 (by decide)) hv) (by omega) ?_
  rintro _ rfl
  exact endq rfl rfl
theorem answerC_bad (hS : OldO S) {xs : List Int} {g : Nat} {cs : List PV} (hl : xs.length ≤ 1000000) (hb : ckV xs ≠ 0) : Ct (ctx.plus S) 72 [pIs xs, pn 20, .fnc g cs] 0 fun r => r = .tup [.lst 0 [], pn (ckV xs)] := by
  refine ct_of (hS 72 (by decide)) fn72 ?_
  refine callq rfl (ck_ct S hS hl) (by omega) ?_
  rintro _ rfl
  refine ⟨fun h => absurd h hb, fun _ => ?_⟩
  refine ⟨fun _ => ?_, fun h => absurd h hb⟩
  exact ⟨⟨[], rfl⟩⟩
theorem answerC_ct (hS : OldO S) {xs : List Int} {g d : Nat} {cs : List PV} {v : PV} (hc : clos cs = true) (hl : xs.length ≤ 1000000) (hb : ckV xs = 0) (hv : cloA v = true) (hg : Ct (ctx.plus S) g (pIs xs :: cs) d fun r => r = v) : Ct (ctx.plus S) 72 [pIs xs, pn 20, .fnc g cs] d fun r => r = .tup [v, pn 0] := by
  refine ct_of (hS 72 (by decide)) fn72 ?_
  refine callq rfl (ck_ct S hS hl) (by omega) ?_
  rintro _ rfl
  rw [hb]
  refine ⟨fun _ => ?_, fun h => absurd rfl h⟩
  refine callq rfl (size'_ct S hS (ckV_bd hb)) (by omega) ?_
  rintro _ rfl
  have := (ckV_ok hb).2.2.1
  refine ⟨fun h => by omega, fun _ => ?_⟩
  refine ⟨fun h => absurd rfl h, fun _ => ?_⟩
  refine callq (ps := pIs xs :: cs) (cloAs_cons rfl hc) hg (by omega) ?_
  rintro _ rfl
  exact endsq (by simp only [cloAs, hv, Bool.true_and]; rfl) rfl
open Classical in
noncomputable def numV (xs : List Int) (X : Int) : PV := if ckV xs = 0 then .tup [pI X, pn 0] else .tup [.lst 0 [], pn (ckV xs)]
theorem number_ct (hS : OldO S) {xs : List Int} {g d : Nat} {v : Int} (hl : xs.length ≤ 1000000) (hg : ckV xs = 0 → Ct (ctx.plus S) g [pIs xs] d fun r => r = pn v) (hv : ckV xs = 0 → In64 v) (hd : d ≤ 100) : Ct (ctx.plus S) 54 [pIs xs, .fn g] 200 fun r => r = numV xs v := by
  refine ct_of (hS 54 (by decide)) fn54 ?_
  refine ⟨by omega, ?_⟩
  by_cases hb : ckV xs = 0
  · unfold numV
    rw [if_pos hb]
    refine cal3 fzL fzI (fz_fnc1 rfl) (answerC_ct S hS (d := d + 12) rfl hl hb rfl (num1_ct S hS (hg hb) (hv hb))) (by omega) ?_
    rintro _ rfl
    exact endsq rfl rfl
  · unfold numV
    rw [if_neg hb]
    refine cal3 fzL fzI (fz_fnc1 rfl) (answerC_bad S hS hl hb) (by omega) ?_
    rintro _ rfl
    exact endsq rfl rfl
theorem centralizer_ct (hS : OldO S) {xs : List Int} (hl : xs.length ≤ 1000000) : Ct (ctx.plus S) 23 [pIs xs] 200 fun r => r = numV xs (cen xs xs.length) := by
  refine ct_of (hS 23 (by decide)) fn23 ?_
  refine callq rfl (number_ct S hS (v := cen xs xs.length) hl (d := 0) (fun hb => central_ct S hS (fun x hx => ((ckV_ok hb).2.1 x hx).1) (ckV_ok hb).2.2.1) (fun hb => ?_) (by omega)) (by omega) ?_
  · obtain ⟨k1, k2, k3, -⟩ := ckV_ok hb
    obtain ⟨c1, c2⟩ := cen_bd (fun x hx => (k2 x hx).1) (i := xs.length) (Nat.le_refl _)
    rw [List.take_of_length_le (Nat.le_refl _)] at c2
    have := sm_ge fun x hx => (k2 x hx).1
    have f2 := fac_20 (n := (sm xs).toNat) (by omega)
    unfold In64
    omega
  · rintro _ rfl
    unfold numV
    by_cases hb : ckV xs = 0
    · rw [if_pos hb]; exact endsq rfl rfl
    · rw [if_neg hb]; exact endsq rfl rfl
theorem classSize_ct (hS : OldO S) {xs : List Int} (hl : xs.length ≤ 1000000) : Ct (ctx.plus S) 24 [pIs xs] 200 fun r => r = numV xs ((fac (sm xs).toNat : Nat) / cen xs xs.length) := by
  refine ct_of (hS 24 (by decide)) fn24 ?_
  refine callq rfl (number_ct S hS (v := (fac (sm xs).toNat : Nat) / cen xs xs.length) hl (d := 0) (fun hb => class_ct S hS (fun x hx => ((ckV_ok hb).2.1 x hx).1) (ckV_ok hb).2.2.1 (ckV_bd hb)) (fun hb => ?_) (by omega)) (by omega) ?_
  · obtain ⟨k1, k2, k3, -⟩ := ckV_ok hb
    obtain ⟨c1, c2⟩ := cen_bd (fun x hx => (k2 x hx).1) (i := xs.length) (Nat.le_refl _)
    have := sm_ge fun x hx => (k2 x hx).1
    have f2 := fac_20 (n := (sm xs).toNat) (by omega)
    have q1 : 0 ≤ ((fac (sm xs).toNat : Nat) : Int) / cen xs xs.length := Int.ediv_nonneg (by omega) (by omega)
    have q2 : ((fac (sm xs).toNat : Nat) : Int) / cen xs xs.length ≤ (fac (sm xs).toNat : Nat) := Int.ediv_le_self _ (by omega)
    unfold In64
    omega
  · rintro _ rfl
    unfold numV
    by_cases hb : ckV xs = 0
    · rw [if_pos hb]; exact endsq rfl rfl
    · rw [if_neg hb]; exact endsq rfl rfl
end Go.PI
/- PERMUTATIONS: inverses, products, cycles, of the program and of the reference. -/
open Go.Proofs
namespace Go.PI
open IM
set_option maxRecDepth 10000
set_option maxHeartbeats 4000000
variable (S : FuncId → Option (List AV → Heap → Option (AV × Heap)))
end Go.PI
/- PERMUTATIONS: what the reference makes of them; cycles. -/
open Go.Proofs
namespace Go.PI
open IM
set_option maxRecDepth 10000
set_option maxHeartbeats 4000000
variable (S : FuncId → Option (List AV → Heap → Option (AV × Heap)))
def cycTo (f : Nat → Nat) (x k : Nat) : List Int := (List.range k).map fun j => ((it f j x : Nat) : Int)
theorem cycTo_succ {f : Nat → Nat} {x k : Nat} : cycTo f x (k + 1) = cycTo f x k ++ [((it f k x : Nat) : Int)] := by simp [cycTo, List.range_succ]
theorem cycTo_len {f : Nat → Nat} {x k : Nat} : (cycTo f x k).length = k := by simp [cycTo]
theorem fn147 : ctx.fn 147 = some c147 := by kernel_rfl
theorem cycle_ct (hS : OldO S) {n x : Nat} {f g : Nat → Nat} (h : IsP n f g) (hn : n ≤ 1000) (hx : x < n) : Ct (ctx.plus S) 147 [pIs (PL n f), pn x] (2 * n) fun r => r = pIs (cyc f x) := by
  have hl : (PL n f).length = n := PL_len
  obtain ⟨o1, o2, o3, o4⟩ := ordr_spec h hx
  have hfx := h.lt x hx
  refine ct_of (hS 147 (by decide)) fn147 ?_
  refine ⟨by omega, part1 fzI ⟨[pn x], rfl, ?_⟩⟩
  refine ⟨⟨⟨by omega, by omega⟩, len_map_le (by omega)⟩, ?_⟩
  refine ⟨_, ld (at_map (PL_get hx)) (by show _ * 1 = x; omega), ?_⟩
  refine ⟨fun m s => ∃ (k b : Nat) (v : PV) (σ : List StB) (T : List PV), s = ⟨T, σ, b⟩ ∧ Gt T 25 [(0, pIs (PL n f)), (1, pn x), (5, v), (6, pn (it f k x : Nat))] ∧ m = ordr f x - k ∧ 1 ≤ k ∧ k ≤ ordr f x ∧ b + 1 ≤ 2 * k ∧ Hid (Gr pn 3 v σ (cycTo f x k)), ⟨_, ci ⟨1, 1, .own 0 0 1 1 1, [.live 3 [pn x]], _, rfl, ⟨rfl, rfl, rfl, rfl, rfl, trivial⟩, rfl, Nat.le_refl _, o1, Nat.le_refl _, ⟨.inr (.inl ⟨0, 3, rfl, rfl⟩)⟩⟩⟩, ?_⟩
  rintro _ s ⟨k, b, v, σ, T, rfl, hT, rfl, hk, hko, hb, hg⟩
  obtain ⟨J, rfl⟩ := gt_open hT
  clear hT
  have hit := it_lt h hx k
  refine ⟨fun hne => ?_, fun heq => ?_⟩
  · have hlt : k < ordr f x := by
      rcases Nat.lt_or_ge k (ordr f x) with a | a
      · exact a
      · have : k = ordr f x := by omega
        rw [this, o2] at hne
        exact absurd rfl hne
    refine ⟨by omega, part1 fzI ⟨[pn (it f k x : Nat)], rfl, ?_⟩⟩
    refine appG (f := pn) (e := 3) (y := ((it f k x : Nat) : Int)) hg.h.push push_cont rfl rfl rfl rfl (by kernel_rfl) rfl rfl (by rw [cycTo_len]; omega) (by omega) fun v' σ' hv' _ _ => ?_
    refine ⟨⟨⟨by omega, by omega⟩, len_map_le (by omega)⟩, ?_⟩
    refine ⟨_, ld (at_map (PL_get hit)) (by show _ * 1 = it f k x; omega), ?_⟩
    exact ⟨_, by omega, ci ⟨k + 1, _, v', σ', _, rfl, ⟨rfl, rfl, rfl, rfl, rfl, trivial⟩, rfl, by omega, by omega, by omega, ⟨cycTo_succ ▸ hv'⟩⟩⟩
  · have hko2 : k = ordr f x := by
      rcases Nat.lt_or_ge k (ordr f x) with a | a
      · exact absurd (by omega) (o4 k (by omega) a)
      · omega
    subst hko2
    obtain ⟨σ', hf⟩ := hg.h.fz
    exact endf hf rfl
end Go.PI
/- THE CYCLES of a permutation. -/
open Go.Proofs
namespace Go.PI
open IM
set_option maxRecDepth 10000
set_option maxHeartbeats 4000000
variable (S : FuncId → Option (List AV → Heap → Option (AV × Heap)))
def Done (n : Nat) (f : Nat → Nat) (i : Nat) (fl : List Bool) : Prop := fl.length = n ∧ ∀ y : Nat, y < n → (fl[y]? = some true ↔ ∃ x, x < i ∧ InC f x y)
def DoneTo (n : Nat) (f : Nat → Nat) (i k : Nat) (fl : List Bool) : Prop := fl.length = n ∧ ∀ y : Nat, y < n → (fl[y]? = some true ↔ (∃ x, x < i ∧ InC f x y) ∨ (y : Int) ∈ cycTo f i k)
theorem not_lead {n : Nat} {f g : Nat → Nat} (h : IsP n f g) {i : Nat} (hi : i < n) : (∃ x, x < i ∧ InC f x i) ↔ ¬ lead f i := by
  constructor
  · rintro ⟨x, hx, hc⟩ hl
    have := hl x (hc.symm h (by omega))
    omega
  · intro hn
    have : ∃ y, InC f i y ∧ y < i := Classical.byContradiction fun hc => hn fun y hy => by
      rcases Nat.lt_or_ge y i with a | a
      · exact absurd ⟨y, hy, a⟩ hc
      · exact a
    obtain ⟨y, hy, hlt⟩ := this
    exact ⟨y, hlt, hy.symm h hi⟩
theorem cyc_to {f : Nat → Nat} {x : Nat} : cyc f x = cycTo f x (ordr f x) := rfl
theorem done_to {n : Nat} {f : Nat → Nat} {i : Nat} {fl : List Bool} (h : Done n f i fl) : DoneTo n f i 0 fl := ⟨h.1, fun y hy => by rw [h.2 y hy]; simp [cycTo]⟩
theorem doneTo_next {n : Nat} {f g : Nat → Nat} (hp : IsP n f g) {i k : Nat} (hi : i < n) {fl : List Bool} (h : DoneTo n f i k fl) : DoneTo n f i (k + 1) (fl.set (it f k i) true) := by
  refine ⟨by simp [h.1], fun y hy => ?_⟩
  have hl := it_lt hp hi k
  rw [cycTo_succ, List.mem_append]
  by_cases hk : y = it f k i
  · subst hk
    rw [List.getElem?_set_self (by rw [h.1]; omega)]
    simp
  · rw [List.getElem?_set_ne (Ne.symm hk), h.2 y hy]
    constructor
    · rintro (a | a)
      · exact .inl a
      · exact .inr (.inl a)
    · rintro (a | a | a)
      · exact .inl a
      · exact .inr a
      · have := List.mem_singleton.1 a
        omega
theorem doneTo_done {n : Nat} {f g : Nat → Nat} (hp : IsP n f g) {i : Nat} (hi : i < n) {fl : List Bool} (h : DoneTo n f i (ordr f i) fl) : Done n f (i + 1) fl := by
  refine ⟨h.1, fun y hy => ?_⟩
  rw [h.2 y hy, ← cyc_to, mem_cyc hp hi]
  constructor
  · rintro (⟨x, hx, hc⟩ | ⟨z, hz, hc⟩)
    · exact ⟨x, by omega, hc⟩
    · have : y = z := by omega
      subst this
      exact ⟨i, by omega, hc⟩
  · rintro ⟨x, hx, hc⟩
    by_cases hxi : x = i
    · subst hxi; exact .inr ⟨y, rfl, hc⟩
    · exact .inl ⟨x, by omega, hc⟩
theorem done_skip {n : Nat} {f g : Nat → Nat} (hp : IsP n f g) {i : Nat} (hi : i < n) {fl : List Bool} (h : Done n f i fl) (hn : ¬ lead f i) : Done n f (i + 1) fl := by
  refine ⟨h.1, fun y hy => ?_⟩
  rw [h.2 y hy]
  constructor
  · rintro ⟨x, hx, hc⟩; exact ⟨x, by omega, hc⟩
  · rintro ⟨x, hx, hc⟩
    by_cases hxi : x = i
    · subst hxi
      obtain ⟨z, hz, hc2⟩ := (not_lead hp hi).2 hn
      exact ⟨z, hz, hc2.trans hc⟩
    · exact ⟨x, by omega, hc⟩
theorem cycs_len {n i : Nat} {f : Nat → Nat} (h : i ≤ n) : (cycs i f).length ≤ n := by
  unfold cycs
  rw [List.length_map]
  exact Nat.le_trans (List.length_filter_le _ _) (by rw [List.length_range]; exact h)
theorem cycs_yes {i : Nat} {f : Nat → Nat} (h : lead f i) : cycs (i + 1) f = cycs i f ++ [cyc f i] := by rw [cycs_step, if_pos h]
theorem cycs_no {i : Nat} {f : Nat → Nat} (h : ¬ lead f i) : cycs (i + 1) f = cycs i f := by rw [cycs_step, if_neg h]
theorem cyc_at {f : Nat → Nat} {x k : Nat} (h : k < ordr f x) : (cyc f x)[k]? = some ((it f k x : Nat) : Int) := by simp [cyc, h]
theorem fn111 : ctx.fn 111 = some c111 := by kernel_rfl
theorem cycles_ct (hS : OldO S) {n : Nat} {f g : Nat → Nat} (h : IsP n f g) (hn : n ≤ 1000) : Ct (ctx.plus S) 111 [pIs (PL n f)] (1 + n * (2 * n + 2)) fun r => r = pM (cycs n f) := by
  obtain ⟨xs, hx⟩ : ∃ xs, xs = PL n f := ⟨_, rfl⟩
  have hl : xs.length = n := by rw [hx, PL_len]
  rw [← hx]
  refine ct_of (hS 111 (by decide)) fn111 ?_
  refine ⟨by omega, ⟨by omega, by omega, by omega⟩, _, flg_zero, ?_⟩
  have hd0 : Done n f 0 (List.replicate xs.length false) := ⟨by simp [hl], fun y hy => by
    rw [List.getElem?_replicate]
    constructor
    · intro h; split at h <;> simp at h
    · rintro ⟨x, hx, -⟩; omega⟩
  refine ⟨fun m s => ∃ (i b : Nat) (v : PV) (σ : List StB) (fl : List Bool) (T : List PV), s = ⟨T, σ, b⟩ ∧ Gt T 40 [(0, pIs xs), (3, v), (4, .own 0 0 xs.length xs.length 1), (13, pn xs.length), (14, pn i)] ∧ m = n - i ∧ i ≤ n ∧ b ≤ 1 + i * (2 * n + 2) ∧ Hid (σ[0]? = some (.live 4 (fl.map PV.bool)) ∧ blkOf v ≠ some 0 ∧ Gr pIs 22 v σ (cycs i f) ∧ Done n f i fl), ⟨_, ci ⟨0, 1, .nils, [.live 4 ((List.replicate xs.length false).map PV.bool)], _, _, rfl, ⟨rfl, rfl, rfl, rfl, rfl, rfl, trivial⟩, rfl, Nat.zero_le _, by omega, ⟨rfl, (fun h => by cases h), .nil, hd0⟩⟩⟩, ?_⟩
  rintro _ s ⟨i, b, v, σ, fl, T, rfl, hT, rfl, hi, hb, hh⟩
  obtain ⟨J, rfl⟩ := gt_open hT
  clear hT
  obtain ⟨h0, hbv, hg, hd⟩ := hh.h
  clear hh
  have hh : Hid (blkOf v ≠ some 0 ∧ Gr pIs 22 v σ (cycs i f) ∧ Done n f i fl) := ⟨hbv, hg, hd⟩
  have hfl : fl.length = n := hd.1
  have hmul : i < n → b + (2 * n + 2) ≤ 1 + (i + 1) * (2 * n + 2) := fun _ => by rw [Nat.add_mul]; omega
  have hmul2 : i < n → 1 + (i + 1) * (2 * n + 2) ≤ 1 + n * (2 * n + 2) := fun hlt => Nat.add_le_add_left (Nat.mul_le_mul_right _ hlt) 1
  clear hbv hg hd
  refine ⟨fun hlt => ?_, fun hge => ?_⟩
  · have hmul := hmul (by omega)
    have hmul2 := hmul2 (by omega)
    refine ⟨⟨by omega, by omega⟩, ?_⟩
    obtain ⟨q, hq⟩ : ∃ q, fl[i]? = some q := ⟨fl[i]'(by omega), List.getElem?_eq_getElem _⟩
    refine ⟨_, load_k rfl rfl (contOf_live h0) (at_map hq) (by show 0 + _ * 1 = i; omega), ?_⟩
    have hld : q = true ↔ ¬ lead f i := by
      rw [← not_lead h (by omega), ← hh.h.2.2.2 i (by omega), hq]
      simp
    cases q with
    | true =>
      have hnl := hld.1 rfl
      refine ⟨⟨by omega, by omega⟩, ?_⟩
      exact ⟨_, by omega, ci ⟨i + 1, b, v, σ, fl, _, rfl, ⟨rfl, rfl, rfl, rfl, rfl, rfl, trivial⟩, rfl, by omega, by omega, ⟨h0, hh.h.1, cycs_no hnl ▸ hh.h.2.1, done_skip h (by omega) hh.h.2.2 hnl⟩⟩⟩
    | false =>
      have hlead : lead f i := Classical.byContradiction fun hc => by have := hld.2 hc; cases this
      have hin : i < n := by omega
      obtain ⟨o1, o2, o3, o4⟩ := ordr_spec h hin
      rw [hx]
      refine callq rfl (cycle_ct S hS h (by omega) (x := i) hin) (by omega) ?_
      rintro _ rfl
      rw [← hx]
      have hcl : (cyc f i).length = ordr f i := cyc_len
      refine ⟨fun m s => ∃ (k : Nat) (σ' : List StB) (fl' : List Bool) (T : List PV), s = ⟨T, σ', b + 2 * n⟩ ∧ Gt T 40 [(0, pIs xs), (3, v), (4, .own 0 0 xs.length xs.length 1), (6, pIs (cyc f i)), (13, pn xs.length), (14, pn i), (24, pIs (cyc f i)), (25, pn (cyc f i).length), (26, pn k)] ∧ m = ordr f i - k ∧ k ≤ ordr f i ∧ Hid (σ'[0]? = some (.live 4 (fl'.map PV.bool)) ∧ Gr pIs 22 v σ' (cycs i f) ∧ DoneTo n f i k fl'), ⟨_, ci ⟨0, σ, fl, _, rfl, ⟨rfl, rfl, rfl, rfl, rfl, rfl, rfl, rfl, rfl, rfl, trivial⟩, rfl, Nat.zero_le _, ⟨h0, hh.h.2.1, done_to hh.h.2.2⟩⟩⟩, ?_⟩
      rintro _ s ⟨k, σ', fl', T, rfl, hT, rfl, hk, hk2⟩
      obtain ⟨J, rfl⟩ := gt_open hT
      clear hT
      have hfl' : fl'.length = n := hk2.h.2.2.1
      refine ⟨fun hlt2 => ?_, fun hge2 => ?_⟩
      · have hit := it_lt h hin k
        refine ⟨⟨⟨by omega, by omega⟩, len_map_le (by omega)⟩, ?_⟩
        refine ⟨_, ld (at_map (cyc_at (show k < ordr f i by omega))) (by show _ * 1 = k; omega), ?_⟩
        refine ⟨⟨by omega, by omega⟩, ?_⟩
        refine ⟨_, _, hk2.h.1, ⟨rfl, by rw [List.length_map]; show 0 + it f k i * 1 + 1 ≤ _; omega, rfl⟩, _, flg_put (j := it f k i) (by show 0 + it f k i * 1 = it f k i; omega) (by omega), _, rfl, ?_⟩
        refine ⟨⟨by omega, by omega⟩, ?_⟩
        have hs0 := (List.getElem?_eq_some_iff.1 hk2.h.1).1
        exact ⟨_, by omega, ci ⟨k + 1, _, _, _, rfl, ⟨rfl, rfl, rfl, rfl, rfl, rfl, rfl, rfl, rfl, rfl, trivial⟩, rfl, by omega, ⟨by rw [List.getElem?_set_self hs0], hk2.h.2.1.keep (fun j x hj hx => by
          rw [List.getElem?_set_ne (fun e => hh.h.1 (by rw [hj, ← e]))]; exact hx), doneTo_next h hin hk2.h.2.2⟩⟩⟩
      · have hko : k = ordr f i := by omega
        subst hko
        refine ⟨by omega, part1 fzL ⟨[pIs (cyc f i)], rfl, ?_⟩⟩
        have hcn := cycs_len (f := f) (show i ≤ n by omega)
        refine appG (f := pIs) (e := 22) (y := cyc f i) hk2.h.2.1.push push_cont rfl rfl rfl rfl (by kernel_rfl) rfl rfl (by omega) (by omega) fun v' σ2 hv' hkeep hb' => ?_
        refine ⟨⟨by omega, by omega⟩, ?_⟩
        have hlen : (σ' ++ [StB.live 22 [pIs (cyc f i)]]).length = σ'.length + 1 := by simp
        exact ⟨_, by omega, ci ⟨i + 1, _, v', σ2, fl', _, rfl, ⟨rfl, rfl, rfl, rfl, rfl, rfl, trivial⟩, rfl, by omega, by omega, ⟨hkeep 0 _ hh.h.1 (push_old hk2.h.1), (fun e => by rw [hb', hlen] at e; cases e), cycs_yes hlead ▸ hv', doneTo_done h hin hk2.h.2.2⟩⟩⟩
  · have hin : i = n := by omega
    subst hin
    obtain ⟨σ', hf⟩ := hh.h.2.1.fz
    exact endf hf rfl
end Go.PI
/- CYCLES of a list; a part, of the reference. -/
open Go.Proofs
namespace Go.PI
open IM
set_option maxRecDepth 10000
set_option maxHeartbeats 4000000
variable (S : FuncId → Option (List AV → Heap → Option (AV × Heap)))
theorem fn69 : ctx.fn 69 = some c69 := by kernel_rfl
theorem cyclesAll_ct (hS : OldO S) {xs : List Int} (hl : xs.length ≤ 1000000) : Ct (ctx.plus S) 69 [pIs xs] 10000 fun v => (60 < xs.length ∧ v = .tup [.lst 0 [], pn 8]) ∨ (xs.length ≤ 60 ∧ chkP xs ≠ 0 ∧ v = .tup [.lst 0 [], pn (chkP xs)]) ∨ (xs.length ≤ 60 ∧ chkP xs = 0 ∧ ∃ f g, xs = PL xs.length f ∧ IsP xs.length f g ∧ v = .tup [pM (cycs xs.length f), pn 0]) := by
  refine ct_of (hS 69 (by decide)) fn69 ?_
  refine ⟨fun h => ?_, fun h => ?_⟩
  · exact ⟨⟨[], .inl ⟨by omega, rfl⟩⟩⟩
  refine callq rfl (checkP_ct S hS hl) (by omega) ?_
  rintro _ rfl
  refine ⟨fun h2 => ?_, fun h2 => ?_⟩
  · exact ⟨⟨[], .inr (.inl ⟨by omega, h2, rfl⟩)⟩⟩
  have hin : InR xs ∧ xs.Nodup := by
    rcases chkP_cases xs with ⟨-, a, b⟩ | a | a
    · exact ⟨a, b⟩
    · rw [a] at h2; omega
    · rw [a] at h2; omega
  obtain ⟨f, g, e, hp⟩ := perm_of hin.1 hin.2
  have hc := cycles_ct S hS hp (by omega)
  rw [← e] at hc
  have hm : 1 + xs.length * (2 * xs.length + 2) ≤ 7400 := by
    have := Nat.mul_le_mul (show xs.length ≤ 60 by omega) (show 2 * xs.length + 2 ≤ 122 by omega)
    omega
  refine callq rfl (hc.mono hm fun _ h => h) (by omega) ?_
  rintro _ rfl
  exact endsq rfl (.inr (.inr ⟨by omega, h2, f, g, e, hp, rfl⟩))
end Go.PI
/- THE TYPE OF A PERMUTATION, of the program. -/
open Go.Proofs
namespace Go.PI
open IM
set_option maxRecDepth 20000
set_option maxHeartbeats 4000000
variable (S : FuncId → Option (List AV → Heap → Option (AV × Heap)))
theorem fn70 : ctx.fn 70 = some c70 := by kernel_rfl
theorem fn25 : ctx.fn 25 = some c25 := by kernel_rfl
def lns (X : List (List Int)) : List Int := X.map fun x => (x.length : Int)
theorem lns_next {X : List (List Int)} {i : Nat} {x : List Int} (h : X[i]? = some x) : lns (X.take (i + 1)) = lns (X.take i) ++ [(x.length : Int)] := by
  unfold lns
  rw [List.take_add_one, h]
  simp
theorem lns_len (X : List (List Int)) : (lns X).length = X.length := by simp [lns]
theorem lengths_ct (hS : OldO S) (hs : S 112 = some sSort) {X : List (List Int)} (hl : X.length ≤ 100) (ax : ∀ x ∈ X, x.length ≤ 1000) : Ct (ctx.plus S) 70 [pM X] 1000 fun r => r = pIs (dsc (lns X)) := by
  refine ct_of (hS 70 (by decide)) fn70 ?_
  refine ⟨fun m s => ∃ (i b : Nat) (v : PV) (σ : List StB) (T : List PV), s = ⟨T, σ, b⟩ ∧ Gt T 23 [(0, pM X), (3, v), (6, pM X), (7, pn X.length), (8, pn i)] ∧ m = X.length - i ∧ i ≤ X.length ∧ b ≤ 2 * i ∧ Hid (Gl v σ (lns (X.take i)) ∧ (i = 0 → v = .nils)), ⟨_, ci ⟨0, 0, .nils, [], _, rfl, ⟨rfl, rfl, rfl, rfl, rfl, rfl, trivial⟩, rfl, Nat.zero_le _, Nat.le_refl _, ⟨.inl ⟨rfl, rfl⟩, fun _ => rfl⟩⟩⟩, ?_⟩
  rintro m s ⟨i, b, v, σ, T, rfl, hT, hm, hi, hbk, hg⟩
  obtain ⟨J, rfl⟩ := gt_open hT
  clear hT
  refine ⟨fun hlt => ?_, fun hge => ?_⟩
  · obtain ⟨x, hx⟩ := xs_getM (xs := X) (i := i) (by omega)
    have hxl := ax x (List.mem_of_getElem? hx)
    refine ⟨⟨⟨by omega, by omega⟩, len_map_le (by omega)⟩, ?_⟩
    refine ⟨_, ld (at_map hx) (by show _ * 1 = i; omega), ?_⟩
    refine ⟨by omega, part1 fzI ⟨[pn x.length], rfl, ?_⟩⟩
    refine app1 S (x := (x.length : Int)) hg.h.1.push push_cont (by rw [lns_len]; simp; omega) (by omega) fun v1 σ1 k1 hk1 hk1' hg1 => ?_
    refine ⟨⟨by omega, by omega⟩, ?_⟩
    exact ⟨_, by omega, ci ⟨i + 1, k1, v1, σ1, _, rfl, ⟨rfl, rfl, rfl, rfl, rfl, by show pn _ = pn _; norm_cast, trivial⟩, rfl, by omega, by omega, ⟨by rw [lns_next hx]; exact hg1, fun h => by omega⟩⟩⟩
  · have hin : i = X.length := by omega
    subst hin
    obtain ⟨hg0, hz⟩ := hg.h
    rw [List.take_of_length_le (Nat.le_refl _)] at hg0
    have hL := lns_len X
    rcases hg0 with ⟨rfl, h0⟩ | ⟨j, rfl, hj⟩ | ⟨j, rfl, hj⟩
    · refine callm (sort_nil S hs) (by omega) ?_
      rintro _ _ ⟨rfl, rfl⟩
      refine callm (reverse_nil S hS) (by omega) ?_
      rintro _ _ ⟨rfl, rfl⟩
      exact endf fzN (by rw [h0, dsc_self List.Pairwise.nil]; rfl)
    · have hjl := (List.getElem?_eq_some_iff.1 hj).1
      by_cases h0 : 0 < (lns X).length
      · refine callm (sort_cm S hs (xs := lns X) (.inl rfl) hj rfl h0 (by omega)) (by omega) ?_
        rintro _ _ ⟨rfl, rfl⟩
        refine callm (reverse_cm S hS (xs := srt (lns X)) (n := (lns X).length) (.inl rfl) (List.getElem?_set_self hjl) (srt_len _) (by omega)) (by omega) ?_
        rintro _ _ ⟨rfl, rfl⟩
        have hat2 : ((σ.set j (.live 3 ((srt (lns X)).map pn))).set j (.live 3 ((srt (lns X)).reverse.map pn)))[j]? = some (.live 3 ((dsc (lns X)).map pn)) := List.getElem?_set_self (by rw [List.length_set]; exact hjl)
        obtain ⟨σ4, hf⟩ := Gl.fz (ys := dsc (lns X)) (.inr (.inl ⟨j, by rw [dsc_len], hat2⟩))
        exact endf hf rfl
      · have := hz (by omega)
        cases this
    · have hjl := (List.getElem?_eq_some_iff.1 hj).1
      by_cases h0 : 0 < (lns X).length
      · refine callm (sort_cm S hs (xs := lns X) (.inr rfl) hj rfl h0 (by omega)) (by omega) ?_
        rintro _ _ ⟨rfl, rfl⟩
        refine callm (reverse_cm S hS (xs := srt (lns X)) (n := (lns X).length) (.inr rfl) (List.getElem?_set_self hjl) (srt_len _) (by omega)) (by omega) ?_
        rintro _ _ ⟨rfl, rfl⟩
        have hat2 : ((σ.set j (.live 3 ((srt (lns X)).map pn))).set j (.live 3 ((srt (lns X)).reverse.map pn)))[j]? = some (.live 3 ((dsc (lns X)).map pn)) := List.getElem?_set_self (by rw [List.length_set]; exact hjl)
        obtain ⟨σ4, hf⟩ := Gl.fz (ys := dsc (lns X)) (.inr (.inr ⟨j, by rw [dsc_len], hat2⟩))
        exact endf hf rfl
      · have := hz (by omega)
        cases this
theorem lns_perm (n : Nat) (f : Nat → Nat) : (lns (cycs n f)).length ≤ n := by rw [lns_len]; exact cycs_len (Nat.le_refl n)
theorem cycType_ct (hS : OldO S) (hs : S 112 = some sSort) {xs : List Int} (hl : xs.length ≤ 1000000) : Ct (ctx.plus S) 25 [pIs xs] 20000 fun r =>
    (20 < xs.length ∧ r = .tup [pIs [], pn 8]) ∨ (xs.length ≤ 20 ∧ chkP xs ≠ 0 ∧ r = .tup [pIs [], pn 3]) ∨ (xs.length ≤ 20 ∧ chkP xs = 0 ∧ ∃ f g, xs = PL xs.length f ∧ IsP xs.length f g ∧ r = .tup [pIs (dsc (lns (cycs xs.length f))), pn 0]) := by
  refine ct_of (hS 25 (by decide)) fn25 ?_
  refine ⟨fun h => ?_, fun h => ?_⟩
  · exact ⟨⟨[], .inl ⟨by omega, rfl⟩⟩⟩
  refine callq rfl (cyclesAll_ct S hS hl) (by omega) ?_
  rintro _ (⟨h1, rfl⟩ | ⟨h1, h2, rfl⟩ | ⟨h1, h2, f, g, e, hp, rfl⟩)
  · omega
  · refine ⟨fun _ => ?_, fun h3 => absurd h3 h2⟩
    exact ⟨⟨[], .inr (.inl ⟨by omega, h2, rfl⟩)⟩⟩
  · refine ⟨fun h3 => absurd rfl h3, fun _ => ?_⟩
    refine callq rfl (lengths_ct S hS hs (X := cycs xs.length f) (Nat.le_trans (cycs_len (Nat.le_refl _)) (by omega)) fun x hx => ?_) (by omega) ?_
    · unfold cycs at hx
      obtain ⟨y, hy, rfl⟩ := List.mem_map.1 hx
      have hyn := List.mem_range.1 (List.mem_filter.1 hy).1
      have := (ordr_spec hp hyn).2.2.1
      rw [cyc_len]
      omega
    · rintro _ rfl
      exact endsq rfl (.inr (.inr ⟨by omega, h2, f, g, e, hp, rfl⟩))
end Go.PI
