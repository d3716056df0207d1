/- Own work of the verifier: OgP. -/
import Derived.Test.YtefajaiioljjoaaOhBC
import Derived.Test.YtefajaiioljjoaaOhBA
set_option linter.all false
set_option exponentiation.threshold 3000
set_option linter.deprecated false
/- STRATA of the reference; the law of directions. -/
open Go.Proofs
namespace Go.PI
open IM
set_option maxRecDepth 10000
set_option maxHeartbeats 4000000
variable (S : FuncId → Option (List AV → Heap → Option (AV × Heap)))
/-- how many lists have a length -/
def cntI (M : List (List Int)) (L : Nat) : Nat := (M.filter fun l => decide (l.length = L)).length
theorem cnt_cycs {n : Nat} {c : Nat → Nat} {L : Nat} : cntI (cycs n c) L = (leads n c L).length := by
  unfold cntI cycs leads
  rw [List.filter_map, List.length_map, List.filter_filter]
  congr 1
  apply List.filter_congr
  intro x _
  simp only [Function.comp, cyc_len]
  by_cases h1 : lead c x <;> by_cases h2 : ordr c x = L <;> simp [h1, h2]
theorem cnt_take {M : List (List Int)} {L i : Nat} {l : List Int} (h : M[i]? = some l) : cntI (M.take (i + 1)) L = cntI (M.take i) L + if l.length = L then 1 else 0 := by
  unfold cntI
  rw [List.take_add_one, h, List.filter_append, List.length_append]
  by_cases hl : l.length = L <;> simp [hl]
theorem cnt_le {M : List (List Int)} {L i : Nat} : cntI (M.take i) L ≤ M.length := by
  unfold cntI
  refine Nat.le_trans (List.length_filter_le _ _) ?_
  rw [List.length_take]
  omega
/-- the orders from n down to n - j + 1 -/
def accTo (n : Nat) (M : List (List Int)) (j : Nat) : List Int := (List.range j).flatMap fun i => List.replicate (cntI M (n - i + 1)) ((n - i : Nat) : Int)
theorem acc_succ {n j : Nat} {M : List (List Int)} : accTo n M (j + 1) = accTo n M j ++ List.replicate (cntI M (n - j + 1)) ((n - j : Nat) : Int) := by
  unfold accTo
  rw [List.range_succ, List.flatMap_append]
  simp
theorem acc_len {n : Nat} {M : List (List Int)} : ∀ j, (accTo n M j).length ≤ j * M.length
  | 0 => by simp [accTo]
  | j + 1 => by
    rw [acc_succ, List.length_append, List.length_replicate, Nat.succ_mul]
    have := acc_len (n := n) (M := M) j
    have h2 : cntI M (n - j + 1) ≤ M.length := by
      have := cnt_le (M := M) (L := n - j + 1) (i := M.length)
      rwa [List.take_length] at this
    omega
theorem fn49 : ctx.fn 49 = some c49 := by kernel_rfl
theorem stratum_ct (hS : OldO S) {r u : List Int} {n : Nat} {f f' g g' : Nat → Nat} (h : IsO r u n f f' g g') : Ct (ctx.plus S) 49 [pO r u] 20000 fun v => v = pIs (accTo n (cycs n (cmf f f' g g')) (n + 1)) := by
  obtain ⟨M, hM⟩ : ∃ M, cycs n (cmf f f' g g') = M := ⟨_, rfl⟩
  have hMl : M.length ≤ n := by rw [← hM]; exact cycs_len (Nat.le_refl n)
  have hMe : ∀ x ∈ M, x.length ≤ n ∧ 0 < x.length := fun x hx => by
    refine ⟨by rw [← hM] at hx; exact cycs_mem h.cm x hx, ?_⟩
    rw [← hM] at hx
    unfold cycs at hx
    obtain ⟨i, hi, rfl⟩ := List.mem_map.1 hx
    rw [cyc_len]
    exact (ordr_spec h.cm (List.mem_range.1 (List.mem_filter.1 hi).1)).1
  have hn := h.le
  have hrl := h.l1.1
  have hacc : ∀ j, j ≤ n + 1 → (accTo n M j).length ≤ 61 * 60 := fun j hj => Nat.le_trans (acc_len j) (Nat.mul_le_mul (by omega) (by omega))
  refine ct_of (hS 49 (by decide)) fn49 ?_
  refine ⟨by omega, ?_⟩
  refine ⟨_, rfl, ?_⟩
  refine callq rfl (rvertices_ct S hS h) (by omega) ?_
  rintro _ rfl
  rw [hM]
  refine ⟨_, rfl, ?_⟩
  refine callq rfl (size_ct S hS) (by omega) ?_
  rintro _ rfl
  refine ⟨fun m s => ∃ (j b : Nat) (v : PV) (σ : List StB) (k : Int) (T : List PV), s = ⟨T, σ, b⟩ ∧ Gt T 34 [(3, pM M), (4, v), (5, pn k)] ∧ m = n + 1 - j ∧ k = (n : Int) - j ∧ j ≤ n + 1 ∧ b ≤ 10002 + 2 * (accTo n M j).length ∧ Hid (Gr pn 3 v σ (accTo n M j)), ⟨_, ci ⟨0, _, .nils, _, r.length, _, rfl, ⟨rfl, rfl, rfl, rfl, trivial⟩, rfl, by omega, Nat.zero_le _, by omega, ⟨.nil⟩⟩⟩, ?_⟩
  rintro _ s ⟨j, b, v, σ, k, T, rfl, hT, rfl, hk, hj, hb, hg⟩
  obtain ⟨J, rfl⟩ := gt_open hT
  clear hT
  refine ⟨fun hlt => ?_, fun hge => ?_⟩
  · have hjn : j ≤ n := by omega
    have ha := hacc (j + 1) (by omega)
    rw [acc_succ, List.length_append, List.length_replicate] at ha
    have ha0 := hacc j (by omega)
    refine ⟨fun m s => ∃ (i b : Nat) (v : PV) (σ : List StB) (T : List PV), s = ⟨T, σ, b⟩ ∧ Gt T 34 [(3, pM M), (4, v), (5, pn k), (6, pn i)] ∧ m = M.length - i ∧ i ≤ M.length ∧ b ≤ 10002 + 2 * (accTo n M j).length + 2 * cntI (M.take i) (n - j + 1) ∧ Hid (Gr pn 3 v σ (accTo n M j ++ List.replicate (cntI (M.take i) (n - j + 1)) k)), ⟨_, ci ⟨0, b, v, σ, _, rfl, ⟨rfl, rfl, rfl, rfl, rfl, trivial⟩, rfl, Nat.zero_le _, by omega, ⟨by simpa [cntI] using hg.h⟩⟩⟩, ?_⟩
    rintro _ s ⟨i, b, v, σ, T, rfl, hT, rfl, hi, hb, hg⟩
    obtain ⟨J, rfl⟩ := gt_open hT
    clear hT
    have hcl := cnt_le (M := M) (L := n - j + 1) (i := i)
    refine ⟨fun hlt2 => ?_, fun hge2 => ?_⟩
    · obtain ⟨l, hl⟩ := xs_getM (xs := M) (i := i) (by omega)
      have hll := hMe l (List.mem_of_getElem? hl)
      have hct := cnt_take (L := n - j + 1) hl
      refine ⟨⟨⟨by omega, by omega⟩, len_map_le (by omega)⟩, ?_⟩
      refine ⟨_, ld (at_map hl) (by show _ * 1 = i; omega), ?_⟩
      refine ⟨⟨by omega, by omega⟩, ?_⟩
      refine ⟨fun heq => ?_, fun hne => ?_⟩
      · have hL : l.length = n - j + 1 := by omega
        rw [if_pos hL] at hct
        refine ⟨by omega, part1 fzI ⟨[pn k], rfl, ?_⟩⟩
        refine appG (f := pn) (e := 3) (y := k) hg.h.push push_cont rfl rfl rfl rfl (by kernel_rfl) rfl rfl (by rw [List.length_append, List.length_replicate]; omega) (by omega) fun v' σ' hv' _ _ => ?_
        refine ⟨⟨by omega, by omega⟩, ?_⟩
        refine ⟨_, by omega, ci ⟨i + 1, _, v', σ', _, rfl, ⟨rfl, rfl, rfl, rfl, rfl, trivial⟩, rfl, by omega, by omega, ⟨?_⟩⟩⟩
        rw [hct, List.replicate_succ', ← List.append_assoc]
        exact hv'
      · have hL : ¬ l.length = n - j + 1 := by omega
        rw [if_neg hL] at hct
        refine ⟨⟨by omega, by omega⟩, ?_⟩
        refine ⟨_, by omega, ci ⟨i + 1, _, v, σ, _, rfl, ⟨rfl, rfl, rfl, rfl, rfl, trivial⟩, rfl, by omega, by omega, ⟨?_⟩⟩⟩
        rw [hct]
        exact hg.h
    · have hi' : i = M.length := by omega
      subst hi'
      have hg' := hg.h
      rw [List.take_length] at hg' hb
      refine ⟨⟨by omega, by omega⟩, ?_⟩
      refine ⟨_, by omega, ci ⟨j + 1, _, v, σ, k - 1, _, rfl, ⟨rfl, rfl, rfl, rfl, trivial⟩, rfl, by omega, by omega, by rw [acc_succ, List.length_append, List.length_replicate]; omega, ⟨?_⟩⟩⟩
      rw [acc_succ, show ((n - j : Nat) : Int) = k by omega]
      exact hg'
  · have hj' : j = n + 1 := by omega
    subst hj'
    obtain ⟨σ', hf⟩ := hg.h.fz
    exact endf hf rfl
theorem fn22 : ctx.fn 22 = some c22 := by kernel_rfl
theorem sameO_ct (hS : OldO S) {t b t' b' : List Int} (l1 : t.length ≤ 1000000) (l2 : b.length ≤ 1000000) (l3 : t'.length ≤ 1000000) (l4 : b'.length ≤ 1000000) :
    Ct (ctx.plus S) 22 [pO t b, pO t' b'] 2 fun r => r = .bool (decide (t = t' ∧ b = b')) := by
  refine ct_of (hS 22 (by decide)) fn22 ?_
  refine ⟨by omega, by omega, ?_⟩
  refine ⟨_, rfl, ?_⟩
  refine ⟨_, rfl, ?_⟩
  refine callq rfl (ints_ct S hS l1 l3) (by omega) ?_
  rintro _ rfl
  by_cases h1 : t = t'
  · rw [decide_eq_true h1]
    refine ⟨_, rfl, ?_⟩
    refine ⟨_, rfl, ?_⟩
    refine callq rfl (ints_ct S hS l2 l4) (by omega) ?_
    rintro _ rfl
    exact endq rfl (by simp [h1])
  · rw [decide_eq_false h1]
    exact endq rfl (by simp [h1])
theorem fn19 : ctx.fn 19 = some c19 := by kernel_rfl
theorem nothing_ct (hS : OldO S) : Ct (ctx.plus S) 19 [pO [] []] 1 fun r => r = .bool true := by
  refine ct_of (hS 19 (by decide)) fn19 ?_
  refine ⟨by omega, ?_⟩
  refine ⟨_, rfl, ?_⟩
  refine ⟨fun _ => ?_, fun h => absurd rfl h⟩
  refine ⟨_, rfl, ?_⟩
  refine ⟨fun _ => ?_, fun h => absurd rfl h⟩
  exact endq rfl rfl
end Go.PI
