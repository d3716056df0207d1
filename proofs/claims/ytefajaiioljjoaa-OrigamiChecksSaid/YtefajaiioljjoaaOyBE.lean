/- Own work of the verifier: OyE. -/
import Derived.Test.YtefajaiioljjoaaOyBD
set_option linter.all false
set_option exponentiation.threshold 3000
set_option linter.deprecated false
/- THE LAW of checks: components, parts, cycles. -/
open Go.Proofs
namespace Go.PI
open IM
set_option maxRecDepth 10000
set_option maxHeartbeats 4000000
variable (S : FuncId → Option (List AV → Heap → Option (AV × Heap)))
theorem fn3 : ctx.fn 3 = some c3 := by kernel_rfl
theorem checksLaw_ct (hS : OldO S) (hA : Ct (ctx.plus S) 13 [] 0 fun r => r = .bool true) {r u p : List Int} {i : Int} : Ct (ctx.plus S) 3 [pO r u, pIs p, pn i] 2000000 fun v => v = .bool true := by
  refine ct_of (hS 3 (by decide)) fn3 ?_
  refine ⟨by omega, ?_⟩
  refine callq rfl hA (by omega) ?_
  rintro _ rfl
  refine ⟨_, rfl, ?_⟩
  refine callq rfl (few_ct S hS) (by omega) ?_
  rintro _ (⟨hf, rfl⟩ | ⟨hf, rfl⟩)
  rotate_left
  · exact endq rfl rfl
  have l1 : r.length ≤ 62 ∧ u.length ≤ 62 := by rcases hf with h | h <;> omega
  refine ⟨fun h12 => ?_, fun h12 => ?_⟩
  · refine ⟨fun h60 => endq rfl rfl, fun h60 => ?_⟩
    refine ⟨fun h62 => endq rfl rfl, fun h62 => ?_⟩
    refine ⟨_, rfl, ?_⟩
    refine callq rfl (rcheck_ct S hS (by omega) (by omega)) (by omega) ?_
    rintro _ rfl
    refine ⟨_, rfl, ?_⟩
    by_cases h0 : chkO r u = 0
    · obtain ⟨n, f, f', g, g', ho⟩ := chkO_ok h0
      have hn := ho.le
      have hl1 := ho.l1
      have hn12 : n ≤ 12 := by rcases hf with h | h <;> omega
      have hcl := comps_len (n := n) (f := f) (g := g)
      have hcm : ∀ x ∈ compsTo f g n n, x.length ≤ 1000000 := fun x hx => by
        obtain ⟨s, -, rfl⟩ := List.mem_map.1 hx
        rw [NL_len]
        have := compTo_len (f := f) (g := g) (s := s) (k := n)
        omega
      rw [h0]
      refine callq rfl (pcomponents_ok S hS ho hn12) (by omega) ?_
      rintro _ rfl
      refine ⟨_, rfl, ?_⟩
      by_cases hi : 0 ≤ i ∧ i < (compsTo f g n n).length
      · obtain ⟨k, rfl⟩ : ∃ k : Nat, i = k := ⟨i.toNat, by omega⟩
        have hkl : k < (lows f g n).length := by rw [← compsTo_len (n := n)]; omega
        obtain ⟨s, hk⟩ : ∃ s, (lows f g n)[k]? = some s := ⟨_, List.getElem?_eq_getElem hkl⟩
        have hsn : s < n := (mem_lows.1 (List.mem_of_getElem? hk)).1
        have hC := compTo_len (f := f) (g := g) (s := s) (k := n)
        have pl1 := ptL_len (C := compTo f g s n) (f := f) (Nat.le_refl _)
        have pl2 := ptL_len (C := compTo f g s n) (f := g) (Nat.le_refl _)
        refine callq rfl (ppart_ok S hS ho hn12 hk) (by omega) ?_
        rintro _ rfl
        refine ⟨by omega, ?_⟩
        refine ⟨_, _, rfl, ⟨rfl, Nat.le_of_ble_eq_true rfl, rfl⟩, _, rfl, _, rfl, ?_⟩
        refine ⟨_, rfl, ?_⟩
        refine callq rfl (check_ct S hS (by omega) (by omega)) (by omega) ?_
        rintro _ rfl
        rw [h0]
        refine ⟨fun h => absurd rfl h, fun _ => ?_⟩
        refine ⟨fun h => absurd rfl h, fun _ => ?_⟩
        refine ⟨fun h => absurd rfl h, fun _ => ?_⟩
        refine ⟨_, rfl, ?_⟩
        refine callq rfl (rcomponents_ct S hS ho) (by omega) ?_
        rintro _ rfl
        refine callq rfl (lists_ct S hS (by omega) (by omega) hcm hcm) (by omega) ?_
        rintro _ rfl
        rw [decide_eq_true rfl]
        refine ⟨fun h => absurd h (by omega), fun _ => ?_⟩
        refine ⟨fun h => absurd h (by omega), fun _ => ?_⟩
        refine ⟨by kernel_rfl, ?_⟩
        refine ⟨fun h => absurd rfl h, fun _ => ?_⟩
        refine ⟨_, rfl, rfl, ?_⟩
        refine ⟨_, rfl, rfl, ?_⟩
        refine callq rfl (rpart_ct S hS ho hk) (by omega) ?_
        rintro _ rfl
        refine callq rfl (sameO_ct S hS (by omega) (by omega) (by omega) (by omega)) (by omega) ?_
        rintro _ rfl
        rw [decide_eq_true ⟨rfl, rfl⟩]
        refine callq rfl (cyclesAll_ct S hS (xs := p) (by omega)) (by omega) ?_
        rintro _ (⟨z1, rfl⟩ | ⟨z1, z2, rfl⟩ | ⟨z1, z2, F, G, zp, zq, rfl⟩)
        · refine callq rfl (checkList_ct S hS (xs := p) (by omega)) (by omega) ?_
          rintro _ rfl
          refine ⟨fun _ => ?_, fun h => absurd h (by omega)⟩
          refine ⟨fun _ => ?_, fun h => absurd h (by decide)⟩
          refine ⟨fun _ => ?_, fun h => absurd rfl h⟩
          refine ⟨fun _ => ?_, fun h => absurd h (by decide)⟩
          exact endq rfl rfl
        · refine callq rfl (checkList_ct S hS (xs := p) (by omega)) (by omega) ?_
          rintro _ rfl
          refine ⟨fun h => absurd h (by omega), fun _ => ?_⟩
          refine ⟨fun _ => ?_, fun h => absurd h z2⟩
          refine ⟨fun _ => ?_, fun h => absurd rfl h⟩
          refine ⟨fun _ => ?_, fun h => absurd h (by decide)⟩
          exact endq rfl rfl
        · refine callq rfl (checkList_ct S hS (xs := p) (by omega)) (by omega) ?_
          rintro _ rfl
          rw [z2]
          refine ⟨fun h => absurd h (by omega), fun _ => ?_⟩
          refine ⟨fun h => absurd rfl h, fun _ => ?_⟩
          refine ⟨fun _ => ?_, fun h => absurd rfl h⟩
          have hm : p.length * (2 * p.length + 2) ≤ 7400 := by
            have := Nat.mul_le_mul (show p.length ≤ 60 by omega) (show 2 * p.length + 2 ≤ 122 by omega)
            omega
          have hr := rcycles_ct S hS zq (by omega)
          rw [← zp] at hr
          refine callq rfl (hr.mono hm fun _ h => h) (by omega) ?_
          rintro _ rfl
          refine callq rfl (lists_ct S hS (X := cycs p.length F) (Y := cycs p.length F) (by have := cycs_len (n := p.length) (f := F) (Nat.le_refl _); omega) (by have := cycs_len (n := p.length) (f := F) (Nat.le_refl _); omega) (fun x hx => by have := cycs_mem zq x hx; omega) (fun x hx => by have := cycs_mem zq x hx; omega)) (by omega) ?_
          rintro _ rfl
          rw [decide_eq_true rfl]
          exact endq rfl rfl
      · refine callq rfl (ppart_none S hS ho hn12 hi) (by omega) ?_
        rintro _ rfl
        refine ⟨by omega, ?_⟩
        refine ⟨_, _, rfl, ⟨rfl, Nat.le_of_ble_eq_true rfl, rfl⟩, _, rfl, _, rfl, ?_⟩
        refine ⟨_, rfl, ?_⟩
        refine callq rfl (check_ct S hS (by omega) (by omega)) (by omega) ?_
        rintro _ rfl
        rw [h0]
        refine ⟨fun h => absurd rfl h, fun _ => ?_⟩
        refine ⟨fun h => absurd rfl h, fun _ => ?_⟩
        refine ⟨fun h => absurd rfl h, fun _ => ?_⟩
        refine ⟨_, rfl, ?_⟩
        refine callq rfl (rcomponents_ct S hS ho) (by omega) ?_
        rintro _ rfl
        refine callq rfl (lists_ct S hS (by omega) (by omega) hcm hcm) (by omega) ?_
        rintro _ rfl
        rw [decide_eq_true rfl]
        refine ⟨fun h => ?_, fun h => ?_⟩
        · refine ⟨fun h => absurd rfl h, fun _ => ?_⟩
          refine ⟨_, rfl, ?_⟩
          refine callq rfl (nothing_ct S hS) (by omega) ?_
          rintro _ rfl
          refine callq rfl (cyclesAll_ct S hS (xs := p) (by omega)) (by omega) ?_
          rintro _ (⟨z1, rfl⟩ | ⟨z1, z2, rfl⟩ | ⟨z1, z2, F, G, zp, zq, rfl⟩)
          · refine callq rfl (checkList_ct S hS (xs := p) (by omega)) (by omega) ?_
            rintro _ rfl
            refine ⟨fun _ => ?_, fun h => absurd h (by omega)⟩
            refine ⟨fun _ => ?_, fun h => absurd h (by decide)⟩
            refine ⟨fun _ => ?_, fun h => absurd rfl h⟩
            refine ⟨fun _ => ?_, fun h => absurd h (by decide)⟩
            exact endq rfl rfl
          · refine callq rfl (checkList_ct S hS (xs := p) (by omega)) (by omega) ?_
            rintro _ rfl
            refine ⟨fun h => absurd h (by omega), fun _ => ?_⟩
            refine ⟨fun _ => ?_, fun h => absurd h z2⟩
            refine ⟨fun _ => ?_, fun h => absurd rfl h⟩
            refine ⟨fun _ => ?_, fun h => absurd h (by decide)⟩
            exact endq rfl rfl
          · refine callq rfl (checkList_ct S hS (xs := p) (by omega)) (by omega) ?_
            rintro _ rfl
            rw [z2]
            refine ⟨fun h => absurd h (by omega), fun _ => ?_⟩
            refine ⟨fun h => absurd rfl h, fun _ => ?_⟩
            refine ⟨fun _ => ?_, fun h => absurd rfl h⟩
            have hm : p.length * (2 * p.length + 2) ≤ 7400 := by
              have := Nat.mul_le_mul (show p.length ≤ 60 by omega) (show 2 * p.length + 2 ≤ 122 by omega)
              omega
            have hr := rcycles_ct S hS zq (by omega)
            rw [← zp] at hr
            refine callq rfl (hr.mono hm fun _ h => h) (by omega) ?_
            rintro _ rfl
            refine callq rfl (lists_ct S hS (X := cycs p.length F) (Y := cycs p.length F) (by have := cycs_len (n := p.length) (f := F) (Nat.le_refl _); omega) (by have := cycs_len (n := p.length) (f := F) (Nat.le_refl _); omega) (fun x hx => by have := cycs_mem zq x hx; omega) (fun x hx => by have := cycs_mem zq x hx; omega)) (by omega) ?_
            rintro _ rfl
            rw [decide_eq_true rfl]
            exact endq rfl rfl
        · refine ⟨fun _ => ?_, fun h => absurd h (by omega)⟩
          refine ⟨fun h => absurd rfl h, fun _ => ?_⟩
          refine ⟨_, rfl, ?_⟩
          refine callq rfl (nothing_ct S hS) (by omega) ?_
          rintro _ rfl
          refine callq rfl (cyclesAll_ct S hS (xs := p) (by omega)) (by omega) ?_
          rintro _ (⟨z1, rfl⟩ | ⟨z1, z2, rfl⟩ | ⟨z1, z2, F, G, zp, zq, rfl⟩)
          · refine callq rfl (checkList_ct S hS (xs := p) (by omega)) (by omega) ?_
            rintro _ rfl
            refine ⟨fun _ => ?_, fun h => absurd h (by omega)⟩
            refine ⟨fun _ => ?_, fun h => absurd h (by decide)⟩
            refine ⟨fun _ => ?_, fun h => absurd rfl h⟩
            refine ⟨fun _ => ?_, fun h => absurd h (by decide)⟩
            exact endq rfl rfl
          · refine callq rfl (checkList_ct S hS (xs := p) (by omega)) (by omega) ?_
            rintro _ rfl
            refine ⟨fun h => absurd h (by omega), fun _ => ?_⟩
            refine ⟨fun _ => ?_, fun h => absurd h z2⟩
            refine ⟨fun _ => ?_, fun h => absurd rfl h⟩
            refine ⟨fun _ => ?_, fun h => absurd h (by decide)⟩
            exact endq rfl rfl
          · refine callq rfl (checkList_ct S hS (xs := p) (by omega)) (by omega) ?_
            rintro _ rfl
            rw [z2]
            refine ⟨fun h => absurd h (by omega), fun _ => ?_⟩
            refine ⟨fun h => absurd rfl h, fun _ => ?_⟩
            refine ⟨fun _ => ?_, fun h => absurd rfl h⟩
            have hm : p.length * (2 * p.length + 2) ≤ 7400 := by
              have := Nat.mul_le_mul (show p.length ≤ 60 by omega) (show 2 * p.length + 2 ≤ 122 by omega)
              omega
            have hr := rcycles_ct S hS zq (by omega)
            rw [← zp] at hr
            refine callq rfl (hr.mono hm fun _ h => h) (by omega) ?_
            rintro _ rfl
            refine callq rfl (lists_ct S hS (X := cycs p.length F) (Y := cycs p.length F) (by have := cycs_len (n := p.length) (f := F) (Nat.le_refl _); omega) (by have := cycs_len (n := p.length) (f := F) (Nat.le_refl _); omega) (fun x hx => by have := cycs_mem zq x hx; omega) (fun x hx => by have := cycs_mem zq x hx; omega)) (by omega) ?_
            rintro _ rfl
            rw [decide_eq_true rfl]
            exact endq rfl rfl
    · refine callq rfl (pcomponents_bad S hS (by omega) (by omega) h0) (by omega) ?_
      rintro _ rfl
      refine ⟨_, rfl, ?_⟩
      refine callq rfl (ppart_bad S hS (by omega) (by omega) h0) (by omega) ?_
      rintro _ rfl
      refine ⟨by omega, ?_⟩
      refine ⟨_, _, rfl, ⟨rfl, Nat.le_of_ble_eq_true rfl, rfl⟩, _, rfl, _, rfl, ?_⟩
      refine ⟨_, rfl, ?_⟩
      refine callq rfl (check_ct S hS (by omega) (by omega)) (by omega) ?_
      rintro _ rfl
      refine ⟨fun h => absurd rfl h, fun _ => ?_⟩
      refine ⟨fun h => absurd rfl h, fun _ => ?_⟩
      refine ⟨fun _ => ?_, fun h => absurd h h0⟩
      refine ⟨fun h => absurd h (by decide), fun _ => ?_⟩
      refine ⟨fun h => absurd rfl h, fun _ => ?_⟩
      refine ⟨_, rfl, ?_⟩
      refine callq rfl (nothing_ct S hS) (by omega) ?_
      rintro _ rfl
      refine callq rfl (cyclesAll_ct S hS (xs := p) (by omega)) (by omega) ?_
      rintro _ (⟨z1, rfl⟩ | ⟨z1, z2, rfl⟩ | ⟨z1, z2, F, G, zp, zq, rfl⟩)
      · refine callq rfl (checkList_ct S hS (xs := p) (by omega)) (by omega) ?_
        rintro _ rfl
        refine ⟨fun _ => ?_, fun h => absurd h (by omega)⟩
        refine ⟨fun _ => ?_, fun h => absurd h (by decide)⟩
        refine ⟨fun _ => ?_, fun h => absurd rfl h⟩
        refine ⟨fun _ => ?_, fun h => absurd h (by decide)⟩
        exact endq rfl rfl
      · refine callq rfl (checkList_ct S hS (xs := p) (by omega)) (by omega) ?_
        rintro _ rfl
        refine ⟨fun h => absurd h (by omega), fun _ => ?_⟩
        refine ⟨fun _ => ?_, fun h => absurd h z2⟩
        refine ⟨fun _ => ?_, fun h => absurd rfl h⟩
        refine ⟨fun _ => ?_, fun h => absurd h (by decide)⟩
        exact endq rfl rfl
      · refine callq rfl (checkList_ct S hS (xs := p) (by omega)) (by omega) ?_
        rintro _ rfl
        rw [z2]
        refine ⟨fun h => absurd h (by omega), fun _ => ?_⟩
        refine ⟨fun h => absurd rfl h, fun _ => ?_⟩
        refine ⟨fun _ => ?_, fun h => absurd rfl h⟩
        have hm : p.length * (2 * p.length + 2) ≤ 7400 := by
          have := Nat.mul_le_mul (show p.length ≤ 60 by omega) (show 2 * p.length + 2 ≤ 122 by omega)
          omega
        have hr := rcycles_ct S hS zq (by omega)
        rw [← zp] at hr
        refine callq rfl (hr.mono hm fun _ h => h) (by omega) ?_
        rintro _ rfl
        refine callq rfl (lists_ct S hS (X := cycs p.length F) (Y := cycs p.length F) (by have := cycs_len (n := p.length) (f := F) (Nat.le_refl _); omega) (by have := cycs_len (n := p.length) (f := F) (Nat.le_refl _); omega) (fun x hx => by have := cycs_mem zq x hx; omega) (fun x hx => by have := cycs_mem zq x hx; omega)) (by omega) ?_
        rintro _ rfl
        rw [decide_eq_true rfl]
        exact endq rfl rfl
  · refine ⟨fun h62 => endq rfl rfl, fun h62 => ?_⟩
    refine ⟨_, rfl, ?_⟩
    refine callq rfl (rcheck_ct S hS (by omega) (by omega)) (by omega) ?_
    rintro _ rfl
    refine ⟨_, rfl, ?_⟩
    by_cases h0 : chkO r u = 0
    · obtain ⟨n, f, f', g, g', ho⟩ := chkO_ok h0
      have hn := ho.le
      have hl1 := ho.l1
      have hn12 : n ≤ 12 := by rcases hf with h | h <;> omega
      have hcl := comps_len (n := n) (f := f) (g := g)
      have hcm : ∀ x ∈ compsTo f g n n, x.length ≤ 1000000 := fun x hx => by
        obtain ⟨s, -, rfl⟩ := List.mem_map.1 hx
        rw [NL_len]
        have := compTo_len (f := f) (g := g) (s := s) (k := n)
        omega
      rw [h0]
      refine callq rfl (pcomponents_ok S hS ho hn12) (by omega) ?_
      rintro _ rfl
      refine ⟨_, rfl, ?_⟩
      by_cases hi : 0 ≤ i ∧ i < (compsTo f g n n).length
      · obtain ⟨k, rfl⟩ : ∃ k : Nat, i = k := ⟨i.toNat, by omega⟩
        have hkl : k < (lows f g n).length := by rw [← compsTo_len (n := n)]; omega
        obtain ⟨s, hk⟩ : ∃ s, (lows f g n)[k]? = some s := ⟨_, List.getElem?_eq_getElem hkl⟩
        have hsn : s < n := (mem_lows.1 (List.mem_of_getElem? hk)).1
        have hC := compTo_len (f := f) (g := g) (s := s) (k := n)
        have pl1 := ptL_len (C := compTo f g s n) (f := f) (Nat.le_refl _)
        have pl2 := ptL_len (C := compTo f g s n) (f := g) (Nat.le_refl _)
        refine callq rfl (ppart_ok S hS ho hn12 hk) (by omega) ?_
        rintro _ rfl
        refine ⟨by omega, ?_⟩
        refine ⟨_, _, rfl, ⟨rfl, Nat.le_of_ble_eq_true rfl, rfl⟩, _, rfl, _, rfl, ?_⟩
        refine ⟨_, rfl, ?_⟩
        refine callq rfl (check_ct S hS (by omega) (by omega)) (by omega) ?_
        rintro _ rfl
        rw [h0]
        refine ⟨fun h => absurd rfl h, fun _ => ?_⟩
        refine ⟨fun h => absurd rfl h, fun _ => ?_⟩
        refine ⟨fun h => absurd rfl h, fun _ => ?_⟩
        refine ⟨_, rfl, ?_⟩
        refine callq rfl (rcomponents_ct S hS ho) (by omega) ?_
        rintro _ rfl
        refine callq rfl (lists_ct S hS (by omega) (by omega) hcm hcm) (by omega) ?_
        rintro _ rfl
        rw [decide_eq_true rfl]
        refine ⟨fun h => absurd h (by omega), fun _ => ?_⟩
        refine ⟨fun h => absurd h (by omega), fun _ => ?_⟩
        refine ⟨by kernel_rfl, ?_⟩
        refine ⟨fun h => absurd rfl h, fun _ => ?_⟩
        refine ⟨_, rfl, rfl, ?_⟩
        refine ⟨_, rfl, rfl, ?_⟩
        refine callq rfl (rpart_ct S hS ho hk) (by omega) ?_
        rintro _ rfl
        refine callq rfl (sameO_ct S hS (by omega) (by omega) (by omega) (by omega)) (by omega) ?_
        rintro _ rfl
        rw [decide_eq_true ⟨rfl, rfl⟩]
        refine callq rfl (cyclesAll_ct S hS (xs := p) (by omega)) (by omega) ?_
        rintro _ (⟨z1, rfl⟩ | ⟨z1, z2, rfl⟩ | ⟨z1, z2, F, G, zp, zq, rfl⟩)
        · refine callq rfl (checkList_ct S hS (xs := p) (by omega)) (by omega) ?_
          rintro _ rfl
          refine ⟨fun _ => ?_, fun h => absurd h (by omega)⟩
          refine ⟨fun _ => ?_, fun h => absurd h (by decide)⟩
          refine ⟨fun _ => ?_, fun h => absurd rfl h⟩
          refine ⟨fun _ => ?_, fun h => absurd h (by decide)⟩
          exact endq rfl rfl
        · refine callq rfl (checkList_ct S hS (xs := p) (by omega)) (by omega) ?_
          rintro _ rfl
          refine ⟨fun h => absurd h (by omega), fun _ => ?_⟩
          refine ⟨fun _ => ?_, fun h => absurd h z2⟩
          refine ⟨fun _ => ?_, fun h => absurd rfl h⟩
          refine ⟨fun _ => ?_, fun h => absurd h (by decide)⟩
          exact endq rfl rfl
        · refine callq rfl (checkList_ct S hS (xs := p) (by omega)) (by omega) ?_
          rintro _ rfl
          rw [z2]
          refine ⟨fun h => absurd h (by omega), fun _ => ?_⟩
          refine ⟨fun h => absurd rfl h, fun _ => ?_⟩
          refine ⟨fun _ => ?_, fun h => absurd rfl h⟩
          have hm : p.length * (2 * p.length + 2) ≤ 7400 := by
            have := Nat.mul_le_mul (show p.length ≤ 60 by omega) (show 2 * p.length + 2 ≤ 122 by omega)
            omega
          have hr := rcycles_ct S hS zq (by omega)
          rw [← zp] at hr
          refine callq rfl (hr.mono hm fun _ h => h) (by omega) ?_
          rintro _ rfl
          refine callq rfl (lists_ct S hS (X := cycs p.length F) (Y := cycs p.length F) (by have := cycs_len (n := p.length) (f := F) (Nat.le_refl _); omega) (by have := cycs_len (n := p.length) (f := F) (Nat.le_refl _); omega) (fun x hx => by have := cycs_mem zq x hx; omega) (fun x hx => by have := cycs_mem zq x hx; omega)) (by omega) ?_
          rintro _ rfl
          rw [decide_eq_true rfl]
          exact endq rfl rfl
      · refine callq rfl (ppart_none S hS ho hn12 hi) (by omega) ?_
        rintro _ rfl
        refine ⟨by omega, ?_⟩
        refine ⟨_, _, rfl, ⟨rfl, Nat.le_of_ble_eq_true rfl, rfl⟩, _, rfl, _, rfl, ?_⟩
        refine ⟨_, rfl, ?_⟩
        refine callq rfl (check_ct S hS (by omega) (by omega)) (by omega) ?_
        rintro _ rfl
        rw [h0]
        refine ⟨fun h => absurd rfl h, fun _ => ?_⟩
        refine ⟨fun h => absurd rfl h, fun _ => ?_⟩
        refine ⟨fun h => absurd rfl h, fun _ => ?_⟩
        refine ⟨_, rfl, ?_⟩
        refine callq rfl (rcomponents_ct S hS ho) (by omega) ?_
        rintro _ rfl
        refine callq rfl (lists_ct S hS (by omega) (by omega) hcm hcm) (by omega) ?_
        rintro _ rfl
        rw [decide_eq_true rfl]
        refine ⟨fun h => ?_, fun h => ?_⟩
        · refine ⟨fun h => absurd rfl h, fun _ => ?_⟩
          refine ⟨_, rfl, ?_⟩
          refine callq rfl (nothing_ct S hS) (by omega) ?_
          rintro _ rfl
          refine callq rfl (cyclesAll_ct S hS (xs := p) (by omega)) (by omega) ?_
          rintro _ (⟨z1, rfl⟩ | ⟨z1, z2, rfl⟩ | ⟨z1, z2, F, G, zp, zq, rfl⟩)
          · refine callq rfl (checkList_ct S hS (xs := p) (by omega)) (by omega) ?_
            rintro _ rfl
            refine ⟨fun _ => ?_, fun h => absurd h (by omega)⟩
            refine ⟨fun _ => ?_, fun h => absurd h (by decide)⟩
            refine ⟨fun _ => ?_, fun h => absurd rfl h⟩
            refine ⟨fun _ => ?_, fun h => absurd h (by decide)⟩
            exact endq rfl rfl
          · refine callq rfl (checkList_ct S hS (xs := p) (by omega)) (by omega) ?_
            rintro _ rfl
            refine ⟨fun h => absurd h (by omega), fun _ => ?_⟩
            refine ⟨fun _ => ?_, fun h => absurd h z2⟩
            refine ⟨fun _ => ?_, fun h => absurd rfl h⟩
            refine ⟨fun _ => ?_, fun h => absurd h (by decide)⟩
            exact endq rfl rfl
          · refine callq rfl (checkList_ct S hS (xs := p) (by omega)) (by omega) ?_
            rintro _ rfl
            rw [z2]
            refine ⟨fun h => absurd h (by omega), fun _ => ?_⟩
            refine ⟨fun h => absurd rfl h, fun _ => ?_⟩
            refine ⟨fun _ => ?_, fun h => absurd rfl h⟩
            have hm : p.length * (2 * p.length + 2) ≤ 7400 := by
              have := Nat.mul_le_mul (show p.length ≤ 60 by omega) (show 2 * p.length + 2 ≤ 122 by omega)
              omega
            have hr := rcycles_ct S hS zq (by omega)
            rw [← zp] at hr
            refine callq rfl (hr.mono hm fun _ h => h) (by omega) ?_
            rintro _ rfl
            refine callq rfl (lists_ct S hS (X := cycs p.length F) (Y := cycs p.length F) (by have := cycs_len (n := p.length) (f := F) (Nat.le_refl _); omega) (by have := cycs_len (n := p.length) (f := F) (Nat.le_refl _); omega) (fun x hx => by have := cycs_mem zq x hx; omega) (fun x hx => by have := cycs_mem zq x hx; omega)) (by omega) ?_
            rintro _ rfl
            rw [decide_eq_true rfl]
            exact endq rfl rfl
        · refine ⟨fun _ => ?_, fun h => absurd h (by omega)⟩
          refine ⟨fun h => absurd rfl h, fun _ => ?_⟩
          refine ⟨_, rfl, ?_⟩
          refine callq rfl (nothing_ct S hS) (by omega) ?_
          rintro _ rfl
          refine callq rfl (cyclesAll_ct S hS (xs := p) (by omega)) (by omega) ?_
          rintro _ (⟨z1, rfl⟩ | ⟨z1, z2, rfl⟩ | ⟨z1, z2, F, G, zp, zq, rfl⟩)
          · refine callq rfl (checkList_ct S hS (xs := p) (by omega)) (by omega) ?_
            rintro _ rfl
            refine ⟨fun _ => ?_, fun h => absurd h (by omega)⟩
            refine ⟨fun _ => ?_, fun h => absurd h (by decide)⟩
            refine ⟨fun _ => ?_, fun h => absurd rfl h⟩
            refine ⟨fun _ => ?_, fun h => absurd h (by decide)⟩
            exact endq rfl rfl
          · refine callq rfl (checkList_ct S hS (xs := p) (by omega)) (by omega) ?_
            rintro _ rfl
            refine ⟨fun h => absurd h (by omega), fun _ => ?_⟩
            refine ⟨fun _ => ?_, fun h => absurd h z2⟩
            refine ⟨fun _ => ?_, fun h => absurd rfl h⟩
            refine ⟨fun _ => ?_, fun h => absurd h (by decide)⟩
            exact endq rfl rfl
          · refine callq rfl (checkList_ct S hS (xs := p) (by omega)) (by omega) ?_
            rintro _ rfl
            rw [z2]
            refine ⟨fun h => absurd h (by omega), fun _ => ?_⟩
            refine ⟨fun h => absurd rfl h, fun _ => ?_⟩
            refine ⟨fun _ => ?_, fun h => absurd rfl h⟩
            have hm : p.length * (2 * p.length + 2) ≤ 7400 := by
              have := Nat.mul_le_mul (show p.length ≤ 60 by omega) (show 2 * p.length + 2 ≤ 122 by omega)
              omega
            have hr := rcycles_ct S hS zq (by omega)
            rw [← zp] at hr
            refine callq rfl (hr.mono hm fun _ h => h) (by omega) ?_
            rintro _ rfl
            refine callq rfl (lists_ct S hS (X := cycs p.length F) (Y := cycs p.length F) (by have := cycs_len (n := p.length) (f := F) (Nat.le_refl _); omega) (by have := cycs_len (n := p.length) (f := F) (Nat.le_refl _); omega) (fun x hx => by have := cycs_mem zq x hx; omega) (fun x hx => by have := cycs_mem zq x hx; omega)) (by omega) ?_
            rintro _ rfl
            rw [decide_eq_true rfl]
            exact endq rfl rfl
    · refine callq rfl (pcomponents_bad S hS (by omega) (by omega) h0) (by omega) ?_
      rintro _ rfl
      refine ⟨_, rfl, ?_⟩
      refine callq rfl (ppart_bad S hS (by omega) (by omega) h0) (by omega) ?_
      rintro _ rfl
      refine ⟨by omega, ?_⟩
      refine ⟨_, _, rfl, ⟨rfl, Nat.le_of_ble_eq_true rfl, rfl⟩, _, rfl, _, rfl, ?_⟩
      refine ⟨_, rfl, ?_⟩
      refine callq rfl (check_ct S hS (by omega) (by omega)) (by omega) ?_
      rintro _ rfl
      refine ⟨fun h => absurd rfl h, fun _ => ?_⟩
      refine ⟨fun h => absurd rfl h, fun _ => ?_⟩
      refine ⟨fun _ => ?_, fun h => absurd h h0⟩
      refine ⟨fun h => absurd h (by decide), fun _ => ?_⟩
      refine ⟨fun h => absurd rfl h, fun _ => ?_⟩
      refine ⟨_, rfl, ?_⟩
      refine callq rfl (nothing_ct S hS) (by omega) ?_
      rintro _ rfl
      refine callq rfl (cyclesAll_ct S hS (xs := p) (by omega)) (by omega) ?_
      rintro _ (⟨z1, rfl⟩ | ⟨z1, z2, rfl⟩ | ⟨z1, z2, F, G, zp, zq, rfl⟩)
      · refine callq rfl (checkList_ct S hS (xs := p) (by omega)) (by omega) ?_
        rintro _ rfl
        refine ⟨fun _ => ?_, fun h => absurd h (by omega)⟩
        refine ⟨fun _ => ?_, fun h => absurd h (by decide)⟩
        refine ⟨fun _ => ?_, fun h => absurd rfl h⟩
        refine ⟨fun _ => ?_, fun h => absurd h (by decide)⟩
        exact endq rfl rfl
      · refine callq rfl (checkList_ct S hS (xs := p) (by omega)) (by omega) ?_
        rintro _ rfl
        refine ⟨fun h => absurd h (by omega), fun _ => ?_⟩
        refine ⟨fun _ => ?_, fun h => absurd h z2⟩
        refine ⟨fun _ => ?_, fun h => absurd rfl h⟩
        refine ⟨fun _ => ?_, fun h => absurd h (by decide)⟩
        exact endq rfl rfl
      · refine callq rfl (checkList_ct S hS (xs := p) (by omega)) (by omega) ?_
        rintro _ rfl
        rw [z2]
        refine ⟨fun h => absurd h (by omega), fun _ => ?_⟩
        refine ⟨fun h => absurd rfl h, fun _ => ?_⟩
        refine ⟨fun _ => ?_, fun h => absurd rfl h⟩
        have hm : p.length * (2 * p.length + 2) ≤ 7400 := by
          have := Nat.mul_le_mul (show p.length ≤ 60 by omega) (show 2 * p.length + 2 ≤ 122 by omega)
          omega
        have hr := rcycles_ct S hS zq (by omega)
        rw [← zp] at hr
        refine callq rfl (hr.mono hm fun _ h => h) (by omega) ?_
        rintro _ rfl
        refine callq rfl (lists_ct S hS (X := cycs p.length F) (Y := cycs p.length F) (by have := cycs_len (n := p.length) (f := F) (Nat.le_refl _); omega) (by have := cycs_len (n := p.length) (f := F) (Nat.le_refl _); omega) (fun x hx => by have := cycs_mem zq x hx; omega) (fun x hx => by have := cycs_mem zq x hx; omega)) (by omega) ?_
        rintro _ rfl
        rw [decide_eq_true rfl]
        exact endq rfl rfl
end Go.PI
