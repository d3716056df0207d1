/- Own work of the verifier: OgAg OgAh. -/
import Derived.Test.YtefajaiioljjoaaOhBJ
import Derived.Test.YtefajaiioljjoaaOhBD
set_option linter.all false
set_option exponentiation.threshold 3000
set_option linter.deprecated false
/- THE LABEL of the program; the law of labels. -/
open Go.Proofs
namespace Go.PI
open IM
set_option maxRecDepth 10000
set_option maxHeartbeats 4000000
variable (S : FuncId → Option (List AV → Heap → Option (AV × Heap)))
def LBst (f g : Nat → Nat) (n i : Nat) (bR bU : List Int) (w3 : PV) : Prop := (i = 0 ∧ bR = [] ∧ bU = [] ∧ w3 = .nils) ∨ (0 < i ∧ bR = Rs f g n (bst f g n i) ∧ bU = Us f g n (bst f g n i) ∧ w3 = pIs (PL n (ei f g n (bst f g n i))))
theorem fn73 : ctx.fn 73 = some c73 := by kernel_rfl
theorem label_ct (hS : OldO S) {r u : List Int} {n : Nat} {f f' g g' : Nat → Nat} (ho : IsO r u n f f' g g') (hc : Conn n f g) :
    Ct (ctx.plus S) 73 [pO r u] 2000000 fun w => w = .tup [pO (Rs f g n (bst f g n n)) (Us f g n (bst f g n n)), pIs (PL n (ei f g n (bst f g n n)))] := by
  have hn := ho.le
  have h0 := ho.pos
  have hrl := ho.l1.1
  refine ct_of (hS 73 (by decide)) fn73 ?_
  refine ⟨by omega, by omega, ?_⟩
  refine ⟨_, rfl, ?_⟩
  refine ⟨fun q st => ∃ (i b : Nat) (bR bU : List Int) (w3 : PV) (σ : List StB) (T : List PV), st = ⟨T, σ, b⟩ ∧ Gt T 33 [(1, .optr 0 0), (2, .optr 1 0), (3, w3), (10, pn r.length), (11, pn i)] ∧ q = n - i ∧ i ≤ n ∧ b ≤ 10 + 30000 * i ∧ Hid (σ[0]? = some (.live 24 [pIs r, pIs u]) ∧ σ[1]? = some (.live 24 [pIs bR, pIs bU]) ∧ LBst f g n i bR bU w3), ⟨_, ci ⟨0, _, [], [], .nils, _, _, rfl, ⟨rfl, rfl, rfl, rfl, rfl, rfl, trivial⟩, rfl, Nat.zero_le _, by omega, ⟨rfl, rfl, .inl ⟨rfl, rfl, rfl, rfl⟩⟩⟩⟩, ?_⟩
  rintro _ st ⟨i, b, bR, bU, w3, σ, T, rfl, hT, rfl, hi, hb, hh⟩
  obtain ⟨J, rfl⟩ := gt_open hT
  clear hT
  obtain ⟨d0, d1, hLB⟩ := hh.h
  clear hh
  have hl1 := (List.getElem?_eq_some_iff.1 d1).1
  refine ⟨fun hlt => ?_, fun hge => ?_⟩
  · have hin : i < n := by omega
    have hbb : (bR = [] ∧ bU = []) ∨ (bR.length = n ∧ bU.length = n) := by
      rcases hLB with ⟨-, h1, h2, -⟩ | ⟨-, h1, h2, -⟩
      · exact .inl ⟨h1, h2⟩
      · exact .inr ⟨by rw [h1, Rs_len], by rw [h2, Us_len]⟩
    refine callm (numberingFrom_cm S hS (x := i)) (by omega) ?_
    rintro _ σ1 ⟨j, m, v0, rfl, a1, a2, a3, a4, a5⟩
    refine ⟨_, load_c (contOf_live (a2 0 _ d0)) rfl rfl, ?_⟩
    refine ⟨_, load_c (contOf_live (a2 1 _ d1)) rfl rfl, ?_⟩
    refine callm (makeLess_cm S hS ho hc hin a1 hbb) (by omega) ?_
    rintro _ σ2 ⟨v', q, bb, R', U', rfl, hiff, x1, x2, x3, x4, x5, hf⟩
    obtain ⟨σ3, f3, g3, k3, l3⟩ := hf (.live 24 [.lst 0 [], .lst 0 []])
    have s1 := (List.getElem?_eq_some_iff.1 (a2 1 _ d1)).1
    have e0 := k3 0 _ (by omega) (by omega) (a5 0 (by omega)) (a2 0 _ d0)
    have e1 := k3 1 _ (by omega) (by omega) (a5 1 (by omega)) (a2 1 _ d1)
    have y0 := x5 0 (by omega) (a5 0 (by omega))
    have y1 := x5 1 (by omega) (a5 1 (by omega))
    have l3l := (List.getElem?_eq_some_iff.1 l3).1
    refine ⟨by omega, ?_⟩
    refine f3 (fun v' σ' => pstoreK (ctx.plus S) σ' 24 (PV.optr σ2.length 0) v' _) ?_
    refine ⟨_, _, l3, ⟨rfl, Nat.le_of_ble_eq_true rfl, rfl⟩, _, rfl, _, rfl, ?_⟩
    cases bb with
    | true =>
      obtain ⟨rfl, rfl, hnum⟩ := g3 rfl
      have hnum4 := hnum.set (L := σ2.length) (b := .live 24 [pIs (Rs f g n i), pIs (Us f g n i)]) x1 x2 x3
      have hbest : bst f g n (i + 1) = i := by
        rcases hLB with ⟨h1, -⟩ | ⟨h1, h2, h3, -⟩
        · subst h1; exact bst_one
        · refine bst_yes ?_
          rcases hiff.1 rfl with h | h
          · rw [h2] at h; exact absurd h (Rs_ne h0)
          · rw [h2, h3] at h; exact h
      obtain ⟨jv, ty, hcv, hv⟩ := hnum4.gr.shape hnum4.ne
      obtain ⟨σ5, f5, c5, len5, k5⟩ := hnum4.gr.cn.fz
      rw [pIs_NL, bfs_PL ho.pr ho.pu h0 hin hc] at f5
      have hliv := hnum4.liv
      have e15 := k5 1 _ y1 (by rw [List.getElem?_set_ne (by omega)]; exact e1)
      have e05 := k5 0 _ y0 (by rw [List.getElem?_set_ne (by omega)]; exact e0)
      rcases hv with hv | hv
      all_goals
        rw [hv] at hliv f5
        refine ⟨by kernel_rfl, ?_⟩
        refine ⟨_, load_c (contOf_live (List.getElem?_set_self l3l)) rfl rfl, rfl, ?_⟩
        refine ⟨_, load_liv hliv rfl rfl, rfl, ?_⟩
        refine cal1 f5 (inverse_ct S hS (es_perm ho.pr ho.pu h0 hin hc) (by omega)) (by omega) ?_
        rintro _ rfl
        refine ⟨_, _, e15, ⟨rfl, Nat.le_of_ble_eq_true rfl, rfl⟩, _, rfl, _, rfl, ?_⟩
        refine ⟨⟨by omega, by omega⟩, ?_⟩
        exact ⟨_, by omega, ci ⟨i + 1, _, Rs f g n i, Us f g n i, pIs (PL n (ei f g n i)), _, _, rfl, ⟨rfl, rfl, rfl, rfl, rfl, rfl, trivial⟩, rfl, by omega, by omega, ⟨by rw [List.getElem?_set_ne (by omega)]; exact e05, List.getElem?_set_self (List.getElem?_eq_some_iff.1 e15).1, .inr ⟨by omega, by rw [hbest], by rw [hbest], by rw [hbest]⟩⟩⟩⟩
    | false =>
      have hbest : 0 < i ∧ bst f g n (i + 1) = bst f g n i := by
        rcases hLB with ⟨h1, h2, -⟩ | ⟨h1, h2, h3, -⟩
        · exact absurd (hiff.2 (.inl h2)) (by decide)
        · refine ⟨h1, bst_no fun hc => ?_⟩
          have := hiff.2 (.inr (by rw [h2, h3]; exact hc))
          cases this
      refine ⟨⟨by omega, by omega⟩, ?_⟩
      exact ⟨_, by omega, ci ⟨i + 1, _, _, _, _, _, _, rfl, ⟨rfl, rfl, rfl, rfl, rfl, rfl, trivial⟩, rfl, by omega, by omega, ⟨by rw [List.getElem?_set_ne (by omega)]; exact e0, by rw [List.getElem?_set_ne (by omega)]; exact e1, by
        rcases hLB with ⟨h1, -⟩ | ⟨h1, h2, h3, h4⟩
        · omega
        · exact .inr ⟨by omega, by rw [hbest.2]; exact h2, by rw [hbest.2]; exact h3, by rw [hbest.2]; exact h4⟩⟩⟩⟩
  · have hin : i = n := by omega
    subst hin
    rcases hLB with ⟨h1, -⟩ | ⟨h1, h2, h3, h4⟩
    · omega
    · subst h2; subst h3; subst h4
      refine ⟨_, load_c (contOf_live d1) rfl rfl, ?_⟩
      refine ⟨_, _, d1, ⟨rfl, Nat.le_of_ble_eq_true rfl, rfl⟩, _, rfl, _, rfl, ?_⟩
      refine ⟨_, load_c (contOf_live (List.getElem?_set_self hl1)) rfl rfl, ?_⟩
      exact endsq rfl rfl
theorem fn27 : ctx.fn 27 = some c27 := by kernel_rfl
theorem labelAll_bad (hS : OldO S) {r u : List Int} (l1 : r.length ≤ 1000000) (l2 : u.length ≤ 1000000) (h : chkO r u ≠ 0) : Ct (ctx.plus S) 27 [pO r u] 4000 fun v => v = .tup [pO [] [], .lst 0 [], pn (chkO r u)] := by
  refine ct_of (hS 27 (by decide)) fn27 ?_
  refine ⟨by omega, by omega, ?_⟩
  refine ⟨_, rfl, ?_⟩
  refine ⟨by omega, partc rfl ⟨_, rfl, ?_⟩⟩
  refine cal1 (fz_own (ty := 24) rfl (Nat.le_refl 2) (Nat.le_refl _) rfl) (checkConn_bad S hS l1 l2 h) (by omega) ?_
  rintro _ rfl
  refine ⟨fun _ => ?_, fun h0 => absurd h0 h⟩
  refine ⟨_, rfl, ?_⟩
  refine ⟨_, _, rfl, ⟨rfl, Nat.le_of_ble_eq_true rfl, rfl⟩, _, rfl, _, rfl, ?_⟩
  refine ⟨_, rfl, ?_⟩
  exact ⟨⟨[], rfl⟩⟩
theorem labelAll_ok (hS : OldO S) {r u : List Int} {n : Nat} {f f' g g' : Nat → Nat} (ho : IsO r u n f f' g g') :
    Ct (ctx.plus S) 27 [pO r u] 2010000 fun v => (¬ Conn n f g ∧ v = .tup [pO [] [], .lst 0 [], pn 16]) ∨ (Conn n f g ∧ v = .tup [pO (Rs f g n (bst f g n n)) (Us f g n (bst f g n n)), pIs (PL n (ei f g n (bst f g n n))), pn 0]) := by
  refine ct_of (hS 27 (by decide)) fn27 ?_
  refine ⟨by omega, by omega, ?_⟩
  refine ⟨_, rfl, ?_⟩
  refine ⟨by omega, partc rfl ⟨_, rfl, ?_⟩⟩
  refine cal1 (fz_own (ty := 24) rfl (Nat.le_refl 2) (Nat.le_refl _) rfl) (checkConn_ok S hS ho) (by omega) ?_
  rintro _ rfl
  by_cases hc : Conn n f g
  · have e : cc n f g = 0 := by unfold cc; rw [if_pos hc]
    rw [e]
    refine ⟨fun h => absurd rfl h, fun _ => ?_⟩
    refine ⟨_, rfl, ?_⟩
    refine callq rfl (label_ct S hS ho hc) (by omega) ?_
    rintro _ rfl
    refine ⟨by omega, ?_⟩
    refine ⟨_, _, rfl, ⟨rfl, Nat.le_of_ble_eq_true rfl, rfl⟩, _, rfl, _, rfl, ?_⟩
    refine ⟨_, rfl, ?_⟩
    refine ⟨_, _, rfl, ⟨rfl, Nat.le_of_ble_eq_true rfl, rfl⟩, _, rfl, _, rfl, ?_⟩
    refine ⟨_, rfl, ?_⟩
    exact endsq rfl (.inr ⟨hc, rfl⟩)
  · have e : cc n f g = 16 := by unfold cc; rw [if_neg hc]
    rw [e]
    refine ⟨fun _ => ?_, fun h => absurd h (by decide)⟩
    refine ⟨_, rfl, ?_⟩
    refine ⟨_, _, rfl, ⟨rfl, Nat.le_of_ble_eq_true rfl, rfl⟩, _, rfl, _, rfl, ?_⟩
    refine ⟨_, rfl, ?_⟩
    exact ⟨⟨[], .inl ⟨hc, rfl⟩⟩⟩
end Go.PI
/- THE LAW of labels. -/
open Go.Proofs
namespace Go.PI
open IM
set_option maxRecDepth 10000
set_option maxHeartbeats 4000000
variable (S : FuncId → Option (List AV → Heap → Option (AV × Heap)))
theorem fn4 : ctx.fn 4 = some c4 := by kernel_rfl
theorem labelLaw_ct (hS : OldO S) (hA : Ct (ctx.plus S) 13 [] 0 fun r => r = .bool true) {r u : List Int} : Ct (ctx.plus S) 4 [pO r u] 3000000 fun v => v = .bool true := by
  refine ct_of (hS 4 (by decide)) fn4 ?_
  refine ⟨by omega, ?_⟩
  refine callq rfl hA (by omega) ?_
  rintro _ rfl
  refine ⟨_, rfl, ?_⟩
  refine callq rfl (few_ct S hS) (by omega) ?_
  rintro _ (⟨hf, rfl⟩ | ⟨hf, rfl⟩)
  rotate_left
  · exact endq rfl rfl
  have l1 : r.length ≤ 62 ∧ u.length ≤ 62 := by rcases hf with h | h <;> omega
  refine ⟨_, rfl, ?_⟩
  by_cases h0 : chkO r u = 0
  · obtain ⟨n, f, f', g, g', ho⟩ := chkO_ok h0
    have hn := ho.le
    have hp := fun s hs => es_perm (s := s) ho.pr ho.pu ho.pos hs
    refine callq rfl (labelAll_ok S hS ho) (by omega) ?_
    rintro _ (⟨hc, rfl⟩ | ⟨hc, rfl⟩)
    · have e : cc n f g = 16 := by unfold cc; rw [if_neg hc]
      refine ⟨by omega, ?_⟩
      refine ⟨_, _, rfl, ⟨rfl, Nat.le_of_ble_eq_true rfl, rfl⟩, _, rfl, _, rfl, ?_⟩
      refine ⟨_, rfl, ?_⟩
      refine callq rfl (checkOne_ok S hS ho) (by omega) ?_
      rintro _ rfl
      rw [e]
      refine ⟨fun _ => ?_, fun h => absurd h (by decide)⟩
      refine ⟨fun _ => ?_, fun h => absurd rfl h⟩
      refine ⟨_, rfl, ?_⟩
      refine callq rfl (nothing_ct S hS) (by omega) ?_
      rintro _ rfl
      refine ⟨fun _ => ?_, fun h => absurd rfl h⟩
      exact endq rfl rfl
    · have e : cc n f g = 0 := by unfold cc; rw [if_pos hc]
      refine ⟨by omega, ?_⟩
      refine ⟨_, _, rfl, ⟨rfl, Nat.le_of_ble_eq_true rfl, rfl⟩, _, rfl, _, rfl, ?_⟩
      refine ⟨_, rfl, ?_⟩
      refine callq rfl (checkOne_ok S hS ho) (by omega) ?_
      rintro _ rfl
      rw [e]
      refine ⟨fun h => absurd rfl h, fun _ => ?_⟩
      refine ⟨_, rfl, ?_⟩
      refine callq rfl (rlabel_ct S hS ho hc) (by omega) ?_
      rintro _ rfl
      refine ⟨by omega, ?_⟩
      refine ⟨_, _, rfl, ⟨rfl, Nat.le_of_ble_eq_true rfl, rfl⟩, _, rfl, _, rfl, ?_⟩
      refine ⟨fun _ => ?_, fun h => absurd rfl h⟩
      refine ⟨_, rfl, ?_⟩
      refine ⟨_, rfl, ?_⟩
      refine callq rfl (sameO_ct S hS (t := Rs f g n (bst f g n n)) (b := Us f g n (bst f g n n)) (t' := Rs f g n (bst f g n n)) (b' := Us f g n (bst f g n n)) (by rw [Rs_len]; omega) (by rw [Us_len]; omega) (by rw [Rs_len]; omega) (by rw [Us_len]; omega)) (by omega) ?_
      rintro _ rfl
      rw [decide_eq_true (⟨rfl, rfl⟩ : _ ∧ _)]
      refine callq rfl (ints_ct S hS (xs := PL n (ei f g n (bst f g n n))) (ys := PL n (ei f g n (bst f g n n))) (by rw [PL_len]; omega) (by rw [PL_len]; omega)) (by omega) ?_
      rintro _ rfl
      rw [decide_eq_true rfl]
      exact endq rfl rfl
  · refine callq rfl (labelAll_bad S hS (by omega) (by omega) h0) (by omega) ?_
    rintro _ rfl
    refine ⟨by omega, ?_⟩
    refine ⟨_, _, rfl, ⟨rfl, Nat.le_of_ble_eq_true rfl, rfl⟩, _, rfl, _, rfl, ?_⟩
    refine ⟨_, rfl, ?_⟩
    refine callq rfl (checkOne_bad S hS (by omega) (by omega) h0) (by omega) ?_
    rintro _ rfl
    refine ⟨fun _ => ?_, fun h => absurd h h0⟩
    refine ⟨fun _ => ?_, fun h => absurd rfl h⟩
    refine ⟨_, rfl, ?_⟩
    refine callq rfl (nothing_ct S hS) (by omega) ?_
    rintro _ rfl
    refine ⟨fun _ => ?_, fun h => absurd rfl h⟩
    exact endq rfl rfl
end Go.PI
