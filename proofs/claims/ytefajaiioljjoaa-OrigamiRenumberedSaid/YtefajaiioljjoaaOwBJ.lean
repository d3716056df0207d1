/- Own work of the verifier: OgAg OgAh OgQ RnD. -/
import Derived.Test.YtefajaiioljjoaaOwBI
import Derived.Test.YtefajaiioljjoaaOwBD
import Derived.Test.YtefajaiioljjoaaOwBF
set_option linter.all false
set_option exponentiation.threshold 3000
set_option linter.deprecated false
/- THE LABEL of the program; the law of labels. -/
open Go.Proofs
namespace Go.PI
open IM
set_option maxRecDepth 10000
set_option maxHeartbeats 4000000
variable (S : FuncId → Option (List AV → Heap → Option (AV × Heap)))
def LBst (f g : Nat → Nat) (n i : Nat) (bR bU : List Int) (w3 : PV) : Prop := (i = 0 ∧ bR = [] ∧ bU = [] ∧ w3 = .nils) ∨ (0 < i ∧ bR = Rs f g n (bst f g n i) ∧ bU = Us f g n (bst f g n i) ∧ w3 = pIs (PL n (ei f g n (bst f g n i))))
theorem fn73 : ctx.fn 73 = some c73 := by kernel_rfl
theorem label_ct (hS : OldO S) {r u : List Int} {n : Nat} {f f' g g' : Nat → Nat} (ho : IsO r u n f f' g g') (hc : Conn n f g) :
    Ct (ctx.plus S) 73 [pO r u] 2000000 fun w => w = .tup [pO (Rs f g n (bst f g n n)) (Us f g n (bst f g n n)), pIs (PL n (ei f g n (bst f g n n)))] := by
  have hn := ho.le
  have h0 := ho.pos
  have hrl := ho.l1.1
  refine ct_of (hS 73 (by decide)) fn73 ?_
  refine ⟨by omega, by omega, ?_⟩
  refine ⟨_, rfl, ?_⟩
  refine ⟨fun q st => ∃ (i b : Nat) (bR bU : List Int) (w3 : PV) (σ : List StB) (T : List PV), st = ⟨T, σ, b⟩ ∧ Gt T 33 [(1, .optr 0 0), (2, .optr 1 0), (3, w3), (10, pn r.length), (11, pn i)] ∧ q = n - i ∧ i ≤ n ∧ b ≤ 10 + 30000 * i ∧ Hid (σ[0]? = some (.live 24 [pIs r, pIs u]) ∧ σ[1]? = some (.live 24 [pIs bR, pIs bU]) ∧ LBst f g n i bR bU w3), ⟨_, ci ⟨0, _, [], [], .nils, _, _, rfl, ⟨rfl, rfl, rfl, rfl, rfl, rfl, trivial⟩, rfl, Nat.zero_le _, by omega, ⟨rfl, rfl, .inl ⟨rfl, rfl, rfl, rfl⟩⟩⟩⟩, ?_⟩
  rintro _ st ⟨i, b, bR, bU, w3, σ, T, rfl, hT, rfl, hi, hb, hh⟩
  obtain ⟨J, rfl⟩ := gt_open hT
  clear hT
  obtain ⟨d0, d1, hLB⟩ := hh.h
  clear hh
  have hl1 := (List.getElem?_eq_some_iff.1 d1).1
  refine ⟨fun hlt => ?_, fun hge => ?_⟩
  · have hin : i < n := by omega
    have hbb : (bR = [] ∧ bU = []) ∨ (bR.length = n ∧ bU.length = n) := by
      rcases hLB with ⟨-, h1, h2, -⟩ | ⟨-, h1, h2, -⟩
      · exact .inl ⟨h1, h2⟩
      · exact .inr ⟨by rw [h1, Rs_len], by rw [h2, Us_len]⟩
    refine callm (numberingFrom_cm S hS (x := i)) (by omega) ?_
    rintro _ σ1 ⟨j, m, v0, rfl, a1, a2, a3, a4, a5⟩
    refine ⟨_, load_c (contOf_live (a2 0 _ d0)) rfl rfl, ?_⟩
    refine ⟨_, load_c (contOf_live (a2 1 _ d1)) rfl rfl, ?_⟩
    refine callm (makeLess_cm S hS ho hc hin a1 hbb) (by omega) ?_
    rintro _ σ2 ⟨v', q, bb, R', U', rfl, hiff, x1, x2, x3, x4, x5, hf⟩
    obtain ⟨σ3, f3, g3, k3, l3⟩ := hf (.live 24 [.lst 0 [], .lst 0 []])
    have s1 := (List.getElem?_eq_some_iff.1 (a2 1 _ d1)).1
    have e0 := k3 0 _ (by omega) (by omega) (a5 0 (by omega)) (a2 0 _ d0)
    have e1 := k3 1 _ (by omega) (by omega) (a5 1 (by omega)) (a2 1 _ d1)
    have y0 := x5 0 (by omega) (a5 0 (by omega))
    have y1 := x5 1 (by omega) (a5 1 (by omega))
    have l3l := (List.getElem?_eq_some_iff.1 l3).1
    refine ⟨by omega, ?_⟩
    refine f3 (fun v' σ' => pstoreK (ctx.plus S) σ' 24 (PV.optr σ2.length 0) v' _) ?_
    refine ⟨_, _, l3, ⟨rfl, Nat.le_of_ble_eq_true rfl, rfl⟩, _, rfl, _, rfl, ?_⟩
    cases bb with
    | true =>
      obtain ⟨rfl, rfl, hnum⟩ := g3 rfl
      have hnum4 := hnum.set (L := σ2.length) (b := .live 24 [pIs (Rs f g n i), pIs (Us f g n i)]) x1 x2 x3
      have hbest : bst f g n (i + 1) = i := by
        rcases hLB with ⟨h1, -⟩ | ⟨h1, h2, h3, -⟩
        · subst h1; exact bst_one
        · refine bst_yes ?_
          rcases hiff.1 rfl with h | h
          · rw [h2] at h; exact absurd h (Rs_ne h0)
          · rw [h2, h3] at h; exact h
      obtain ⟨jv, ty, hcv, hv⟩ := hnum4.gr.shape hnum4.ne
      obtain ⟨σ5, f5, c5, len5, k5⟩ := hnum4.gr.cn.fz
      rw [pIs_NL, bfs_PL ho.pr ho.pu h0 hin hc] at f5
      have hliv := hnum4.liv
      have e15 := k5 1 _ y1 (by rw [List.getElem?_set_ne (by omega)]; exact e1)
      have e05 := k5 0 _ y0 (by rw [List.getElem?_set_ne (by omega)]; exact e0)
      rcases hv with hv | hv
      all_goals
        rw [hv] at hliv f5
        refine ⟨by kernel_rfl, ?_⟩
        refine ⟨_, load_c (contOf_live (List.getElem?_set_self l3l)) rfl rfl, rfl, ?_⟩
        refine ⟨_, load_liv hliv rfl rfl, rfl, ?_⟩
        refine cal1 f5 (inverse_ct S hS (es_perm ho.pr ho.pu h0 hin hc) (by omega)) (by omega) ?_
        rintro _ rfl
        refine ⟨_, _, e15, ⟨rfl, Nat.le_of_ble_eq_true rfl, rfl⟩, _, rfl, _, rfl, ?_⟩
        refine ⟨⟨by omega, by omega⟩, ?_⟩
        exact ⟨_, by omega, ci ⟨i + 1, _, Rs f g n i, Us f g n i, pIs (PL n (ei f g n i)), _, _, rfl, ⟨rfl, rfl, rfl, rfl, rfl, rfl, trivial⟩, rfl, by omega, by omega, ⟨by rw [List.getElem?_set_ne (by omega)]; exact e05, List.getElem?_set_self (List.getElem?_eq_some_iff.1 e15).1, .inr ⟨by omega, by rw [hbest], by rw [hbest], by rw [hbest]⟩⟩⟩⟩
    | false =>
      have hbest : 0 < i ∧ bst f g n (i + 1) = bst f g n i := by
        rcases hLB with ⟨h1, h2, -⟩ | ⟨h1, h2, h3, -⟩
        · exact absurd (hiff.2 (.inl h2)) (by decide)
        · refine ⟨h1, bst_no fun hc => ?_⟩
          have := hiff.2 (.inr (by rw [h2, h3]; exact hc))
          cases this
      refine ⟨⟨by omega, by omega⟩, ?_⟩
      exact ⟨_, by omega, ci ⟨i + 1, _, _, _, _, _, _, rfl, ⟨rfl, rfl, rfl, rfl, rfl, rfl, trivial⟩, rfl, by omega, by omega, ⟨by rw [List.getElem?_set_ne (by omega)]; exact e0, by rw [List.getElem?_set_ne (by omega)]; exact e1, by
        rcases hLB with ⟨h1, -⟩ | ⟨h1, h2, h3, h4⟩
        · omega
        · exact .inr ⟨by omega, by rw [hbest.2]; exact h2, by rw [hbest.2]; exact h3, by rw [hbest.2]; exact h4⟩⟩⟩⟩
  · have hin : i = n := by omega
    subst hin
    rcases hLB with ⟨h1, -⟩ | ⟨h1, h2, h3, h4⟩
    · omega
    · subst h2; subst h3; subst h4
      refine ⟨_, load_c (contOf_live d1) rfl rfl, ?_⟩
      refine ⟨_, _, d1, ⟨rfl, Nat.le_of_ble_eq_true rfl, rfl⟩, _, rfl, _, rfl, ?_⟩
      refine ⟨_, load_c (contOf_live (List.getElem?_set_self hl1)) rfl rfl, ?_⟩
      exact endsq rfl rfl
theorem fn27 : ctx.fn 27 = some c27 := by kernel_rfl
theorem labelAll_ok (hS : OldO S) {r u : List Int} {n : Nat} {f f' g g' : Nat → Nat} (ho : IsO r u n f f' g g') :
    Ct (ctx.plus S) 27 [pO r u] 2010000 fun v => (¬ Conn n f g ∧ v = .tup [pO [] [], .lst 0 [], pn 16]) ∨ (Conn n f g ∧ v = .tup [pO (Rs f g n (bst f g n n)) (Us f g n (bst f g n n)), pIs (PL n (ei f g n (bst f g n n))), pn 0]) := by
  refine ct_of (hS 27 (by decide)) fn27 ?_
  refine ⟨by omega, by omega, ?_⟩
  refine ⟨_, rfl, ?_⟩
  refine ⟨by omega, partc rfl ⟨_, rfl, ?_⟩⟩
  refine cal1 (fz_own (ty := 24) rfl (Nat.le_refl 2) (Nat.le_refl _) rfl) (checkConn_ok S hS ho) (by omega) ?_
  rintro _ rfl
  by_cases hc : Conn n f g
  · have e : cc n f g = 0 := by unfold cc; rw [if_pos hc]
    rw [e]
    refine ⟨fun h => absurd rfl h, fun _ => ?_⟩
    refine ⟨_, rfl, ?_⟩
    refine callq rfl (label_ct S hS ho hc) (by omega) ?_
    rintro _ rfl
    refine ⟨by omega, ?_⟩
    refine ⟨_, _, rfl, ⟨rfl, Nat.le_of_ble_eq_true rfl, rfl⟩, _, rfl, _, rfl, ?_⟩
    refine ⟨_, rfl, ?_⟩
    refine ⟨_, _, rfl, ⟨rfl, Nat.le_of_ble_eq_true rfl, rfl⟩, _, rfl, _, rfl, ?_⟩
    refine ⟨_, rfl, ?_⟩
    exact endsq rfl (.inr ⟨hc, rfl⟩)
  · have e : cc n f g = 16 := by unfold cc; rw [if_neg hc]
    rw [e]
    refine ⟨fun _ => ?_, fun h => absurd h (by decide)⟩
    refine ⟨_, rfl, ?_⟩
    refine ⟨_, _, rfl, ⟨rfl, Nat.le_of_ble_eq_true rfl, rfl⟩, _, rfl, _, rfl, ?_⟩
    refine ⟨_, rfl, ?_⟩
    exact ⟨⟨[], .inl ⟨hc, rfl⟩⟩⟩
end Go.PI
/- THE LAW of labels. -/
open Go.Proofs
namespace Go.PI
open IM
set_option maxRecDepth 10000
set_option maxHeartbeats 4000000
variable (S : FuncId → Option (List AV → Heap → Option (AV × Heap)))
end Go.PI
/- THE LAW of directions. -/
open Go.Proofs
namespace Go.PI
open IM
set_option maxRecDepth 10000
set_option maxHeartbeats 4000000
variable (S : FuncId → Option (List AV → Heap → Option (AV × Heap)))
theorem acc_conj {n : Nat} {c c' : Nat → Nat} (h : ∀ m, (leads n c m).length = (leads n c' m).length) : ∀ j, accTo n (cycs n c) j = accTo n (cycs n c') j
  | 0 => rfl
  | j + 1 => by rw [acc_succ, acc_succ, acc_conj h j, cnt_cycs, cnt_cycs, h]
end Go.PI
/- What the law of renumbered origamis calls. -/
open Go.Proofs
namespace Go.PI
open IM
set_option maxRecDepth 20000
set_option maxHeartbeats 4000000
variable (S : FuncId → Option (List AV → Heap → Option (AV × Heap)))
theorem rcheckL_ct (hS : OldO S) {r u : List Int} (l1 : r.length ≤ 1000000) : Ct (ctx.plus S) 15 [pO r u] 1 fun v => v = pn (chkO r u) := by
  refine ct_of (hS 15 (by decide)) fn15 ?_
  refine ⟨by omega, ?_⟩
  refine ⟨_, rfl, ?_⟩
  refine ⟨_, rfl, ?_⟩
  refine ⟨fun h1 => ?_, fun h1 => ?_⟩
  · exact endq rfl (by rw [chkO10 (.inl (by omega))])
  refine ⟨fun h2 => ?_, fun h2 => ?_⟩
  · exact endq rfl (by rw [chkO10 (.inr (by omega))])
  have h12 : ¬ (u.length ≠ r.length ∨ r.length = 0) := by omega
  refine ⟨fun h3 => ?_, fun h3 => ?_⟩
  · exact endq rfl (by rw [chkO8 h12 (by omega)])
  refine ⟨_, rfl, ?_⟩
  refine callq rfl (checkList_ct S hS l1) (by omega) ?_
  rintro _ rfl
  refine ⟨fun h4 => ?_, fun h4 => ?_⟩
  · exact endq rfl (by rw [chkOr h12 (by omega) h4])
  refine ⟨_, rfl, ?_⟩
  have hc : Ct (ctx.plus S) 25 [pIs u, pn r.length] 0 fun v => v = pn (chkP u) := by
    rw [show (r.length : Int) = u.length by omega]
    exact checkList_ct S hS (by omega)
  refine callq rfl hc (by omega) ?_
  rintro _ rfl
  exact endq rfl (by rw [chkOu h12 (by omega) h4])
theorem checkTwoL_bad (hS : OldO S) {r u r2 u2 : List Int} (l1 : r.length ≤ 1000000) (l3 : r2.length ≤ 1000000) (h : chkA [(r, u), (r2, u2)] ≠ 0) : Ct (ctx.plus S) 33 [pO r u, pO r2 u2] 10 fun v => v = pn (chkA [(r, u), (r2, u2)]) := by
  refine ct_of (hS 33 (by decide)) fn33 ?_
  refine ⟨by omega, by omega, ?_⟩
  refine ⟨_, rfl, ?_⟩
  refine callq rfl (rcheckL_ct S hS l1) (by omega) ?_
  rintro _ rfl
  refine ⟨fun h1 => ?_, fun h1 => ?_⟩
  · exact endq rfl (by rw [chkA_fst h1])
  refine ⟨_, rfl, ?_⟩
  refine callq rfl (rcheckL_ct S hS l3) (by omega) ?_
  rintro _ rfl
  refine ⟨fun h2 => ?_, fun h2 => ?_⟩
  · exact endq rfl (by rw [chkA_snd h1])
  · exact absurd (chkA_two.2 ⟨h1, h2⟩) h
theorem two_cases (hS : OldO S) {r u r2 u2 : List Int} (l1 : r.length ≤ 30) (l3 : r2.length ≤ 30) :
    (∃ e : Int, e ≠ 0 ∧ Ct (ctx.plus S) 33 [pO r u, pO r2 u2] 700000 fun v => v = pn e) ∨
      ∃ n m f f' g g' F F' G G', IsO r u n f f' g g' ∧ IsO r2 u2 m F F' G G' ∧ Con2 n m f g F G ∧ Ct (ctx.plus S) 33 [pO r u, pO r2 u2] 700000 fun v => v = pn 0 := by
  by_cases h0 : chkA [(r, u), (r2, u2)] = 0
  · obtain ⟨n, m, f, f', g, g', F, F', G, G', ho, ho2⟩ := chkA_valid h0
    have h33 := checkTwo_ok S hS ho ho2
    by_cases hc : Con2 n m f g F G
    · have e : cc2 n m f g F G = 0 := by unfold cc2; rw [if_pos hc]
      rw [e] at h33
      exact .inr ⟨n, m, f, f', g, g', F, F', G, G', ho, ho2, hc, h33⟩
    · have e : cc2 n m f g F G = 16 := by unfold cc2; rw [if_neg hc]
      rw [e] at h33
      exact .inl ⟨16, by decide, h33⟩
  · exact .inl ⟨_, h0, (checkTwoL_bad S hS (by omega) (by omega) h0).mono (by omega) fun _ h => h⟩
theorem lat_inj {A B C A' B' C' : Int} (hl : lat A B C = lat A' B' C') : A = A' ∧ B = B' ∧ C = C' := by
  unfold lat at hl
  injection hl with hl
  injection hl with q1 hl
  injection hl with q2 hl
  injection hl with q3 hl
  injection q1 with _ q1
  injection q2 with _ q2
  injection q3 with _ q3
  exact ⟨q1, q2, q3⟩
theorem isoKey_ct (hS : OldO S) {r u r2 u2 : List Int} {n m : Nat} {f f' g g' F F' G G' : Nat → Nat} (ho : IsO r u n f f' g g') (ho2 : IsO r2 u2 m F F' G G') (hcn : Con2 n m f g F G) (hn : n ≤ 30) :
    Ct (ctx.plus S) 31 [pO r u, pO r2 u2] 80010 fun v => ((Rs f g n (bst f g n n) = Rs F G m (bst F G m m) ∧ Us f g n (bst f g n n) = Us F G m (bst F G m m)) ∧ ∃ x, v = .tup [pIs x, pn 0] ∧ x.length = n ∧ chkM r u r2 u2 x true = 0) ∨
      (¬ (Rs f g n (bst f g n n) = Rs F G m (bst F G m m) ∧ Us f g n (bst f g n n) = Us F G m (bst F G m m)) ∧ v = .tup [.lst 0 [], pn 11]) := by
  refine (isoM_ok S hS ho ho2 hcn hn).mono (Nat.le_refl _) fun v h => ?_
  by_cases hnm : n = m
  · subst hnm
    rcases h with ⟨hm, rfl⟩ | ⟨x, t, hm, ⟨hne, rfl⟩ | ⟨-, rfl⟩⟩
    · refine .inr ⟨fun hL => ?_, rfl⟩
      have i := isom_of_label ho.pr ho.pu ho2.pr ho2.pu ho.pos hcn.1 hcn.2 (bst_lt ho.pos n (Nat.le_refl _)) (bst_lt ho.pos n (Nat.le_refl _)) hL.1 hL.2
      exact mps_ne ho.pr ho.pu ho.pos hcn.1 (i.lt 0 ho.pos) i.map hm
    · exact absurd rfl hne
    · obtain ⟨h, s, hs, hma, rfl⟩ := mps_of (Nat.le_refl _) x (by rw [hm]; simp)
      have i := map_isom ho.pr ho.pu ho2.pr ho2.pu ho.pos hcn.2 hs hma
      have l := i.label ho.pr ho.pu ho.pos hcn.1
      exact .inl ⟨⟨l.1.symm, l.2.symm⟩, _, rfl, PL_len, i.chk ho ho2⟩
  · have hne : ¬ (Rs f g n (bst f g n n) = Rs F G m (bst F G m m) ∧ Us f g n (bst f g n n) = Us F G m (bst F G m m)) := fun hL => hnm (by have := congrArg List.length hL.1; rwa [Rs_len, Rs_len] at this)
    rcases h with ⟨hm, rfl⟩ | ⟨x, t, hm, ⟨-, rfl⟩ | ⟨he, rfl⟩⟩
    · exact .inr ⟨hne, rfl⟩
    · exact .inr ⟨hne, rfl⟩
    · exact absurd he hnm
end Go.PI
