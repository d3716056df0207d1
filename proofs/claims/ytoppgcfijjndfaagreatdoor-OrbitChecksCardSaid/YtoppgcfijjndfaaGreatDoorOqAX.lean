/- Own work of the verifier: OrE OrF OrG OrH OrI OrJ OgBfs. -/
import Derived.Test.YtoppgcfijjndfaaGreatDoorOqAW
set_option linter.all false
set_option exponentiation.threshold 3000
set_option linter.deprecated false
/- THE CYCLES of a permutation. -/
open Go.Proofs
namespace Go.PI
open IM
set_option maxRecDepth 10000
set_option maxHeartbeats 4000000
variable (S : FuncId → Option (List AV → Heap → Option (AV × Heap)))
/-- a slice of slices of integers -/
def pM (M : List (List Int)) : PV := .lst M.length (M.map pIs)
/-- those whose cycles have been listed -/
def Done (n : Nat) (f : Nat → Nat) (i : Nat) (fl : List Bool) : Prop := fl.length = n ∧ ∀ y : Nat, y < n → (fl[y]? = some true ↔ ∃ x, x < i ∧ InC f x y)
def DoneTo (n : Nat) (f : Nat → Nat) (i k : Nat) (fl : List Bool) : Prop := fl.length = n ∧ ∀ y : Nat, y < n → (fl[y]? = some true ↔ (∃ x, x < i ∧ InC f x y) ∨ (y : Int) ∈ cycTo f i k)
theorem not_lead {n : Nat} {f g : Nat → Nat} (h : IsP n f g) {i : Nat} (hi : i < n) : (∃ x, x < i ∧ InC f x i) ↔ ¬ lead f i := by
  constructor
  · rintro ⟨x, hx, hc⟩ hl
    have := hl x (hc.symm h (by omega))
    omega
  · intro hn
    have : ∃ y, InC f i y ∧ y < i := Classical.byContradiction fun hc => hn fun y hy => by
      rcases Nat.lt_or_ge y i with a | a
      · exact absurd ⟨y, hy, a⟩ hc
      · exact a
    obtain ⟨y, hy, hlt⟩ := this
    exact ⟨y, hlt, hy.symm h hi⟩
theorem cyc_to {f : Nat → Nat} {x : Nat} : cyc f x = cycTo f x (ordr f x) := rfl
theorem done_to {n : Nat} {f : Nat → Nat} {i : Nat} {fl : List Bool} (h : Done n f i fl) : DoneTo n f i 0 fl := ⟨h.1, fun y hy => by rw [h.2 y hy]; simp [cycTo]⟩
theorem doneTo_next {n : Nat} {f g : Nat → Nat} (hp : IsP n f g) {i k : Nat} (hi : i < n) {fl : List Bool} (h : DoneTo n f i k fl) : DoneTo n f i (k + 1) (fl.set (it f k i) true) := by
  refine ⟨by simp [h.1], fun y hy => ?_⟩
  have hl := it_lt hp hi k
  rw [cycTo_succ, List.mem_append]
  by_cases hk : y = it f k i
  · subst hk
    rw [List.getElem?_set_self (by rw [h.1]; omega)]
    simp
  · rw [List.getElem?_set_ne (Ne.symm hk), h.2 y hy]
    constructor
    · rintro (a | a)
      · exact .inl a
      · exact .inr (.inl a)
    · rintro (a | a | a)
      · exact .inl a
      · exact .inr a
      · have := List.mem_singleton.1 a
        omega
theorem doneTo_done {n : Nat} {f g : Nat → Nat} (hp : IsP n f g) {i : Nat} (hi : i < n) {fl : List Bool} (h : DoneTo n f i (ordr f i) fl) : Done n f (i + 1) fl := by
  refine ⟨h.1, fun y hy => ?_⟩
  rw [h.2 y hy, ← cyc_to, mem_cyc hp hi]
  constructor
  · rintro (⟨x, hx, hc⟩ | ⟨z, hz, hc⟩)
    · exact ⟨x, by omega, hc⟩
    · have : y = z := by omega
      subst this
      exact ⟨i, by omega, hc⟩
  · rintro ⟨x, hx, hc⟩
    by_cases hxi : x = i
    · subst hxi; exact .inr ⟨y, rfl, hc⟩
    · exact .inl ⟨x, by omega, hc⟩
theorem done_skip {n : Nat} {f g : Nat → Nat} (hp : IsP n f g) {i : Nat} (hi : i < n) {fl : List Bool} (h : Done n f i fl) (hn : ¬ lead f i) : Done n f (i + 1) fl := by
  refine ⟨h.1, fun y hy => ?_⟩
  rw [h.2 y hy]
  constructor
  · rintro ⟨x, hx, hc⟩; exact ⟨x, by omega, hc⟩
  · rintro ⟨x, hx, hc⟩
    by_cases hxi : x = i
    · subst hxi
      obtain ⟨z, hz, hc2⟩ := (not_lead hp hi).2 hn
      exact ⟨z, hz, hc2.trans hc⟩
    · exact ⟨x, by omega, hc⟩
theorem cycs_len {n i : Nat} {f : Nat → Nat} (h : i ≤ n) : (cycs i f).length ≤ n := by
  unfold cycs
  rw [List.length_map]
  exact Nat.le_trans (List.length_filter_le _ _) (by rw [List.length_range]; exact h)
theorem cycs_yes {i : Nat} {f : Nat → Nat} (h : lead f i) : cycs (i + 1) f = cycs i f ++ [cyc f i] := by rw [cycs_step, if_pos h]
theorem cycs_no {i : Nat} {f : Nat → Nat} (h : ¬ lead f i) : cycs (i + 1) f = cycs i f := by rw [cycs_step, if_neg h]
theorem cyc_at {f : Nat → Nat} {x k : Nat} (h : k < ordr f x) : (cyc f x)[k]? = some ((it f k x : Nat) : Int) := by simp [cyc, h]
theorem fn229 : ctx.fn 229 = some c229 := by kernel_rfl
theorem cycles_ct (hS : OldO S) {n : Nat} {f g : Nat → Nat} (h : IsP n f g) (hn : n ≤ 1000) : Ct (ctx.plus S) 229 [pIs (PL n f)] (1 + n * (2 * n + 2)) fun r => r = pM (cycs n f) := by
  obtain ⟨xs, hx⟩ : ∃ xs, xs = PL n f := ⟨_, rfl⟩
  have hl : xs.length = n := by rw [hx, PL_len]
  rw [← hx]
  refine ct_of (hS 229 (by decide)) fn229 ?_
  refine ⟨by omega, ⟨by omega, by omega, by omega⟩, _, flg_zero, ?_⟩
  have hd0 : Done n f 0 (List.replicate xs.length false) := ⟨by simp [hl], fun y hy => by
    rw [List.getElem?_replicate]
    constructor
    · intro h; split at h <;> simp at h
    · rintro ⟨x, hx, -⟩; omega⟩
  refine ⟨fun m s => ∃ (i b : Nat) (v : PV) (σ : List StB) (fl : List Bool) (T : List PV), s = ⟨T, σ, b⟩ ∧ Gt T 40 [(0, pIs xs), (3, v), (4, .own 0 0 xs.length xs.length 1), (13, pn xs.length), (14, pn i)] ∧ m = n - i ∧ i ≤ n ∧ b ≤ 1 + i * (2 * n + 2) ∧ Hid (σ[0]? = some (.live 4 (fl.map PV.bool)) ∧ blkOf v ≠ some 0 ∧ Gr pIs 43 v σ (cycs i f) ∧ Done n f i fl), ⟨_, ci ⟨0, 1, .nils, [.live 4 ((List.replicate xs.length false).map PV.bool)], _, _, rfl, ⟨rfl, rfl, rfl, rfl, rfl, rfl, trivial⟩, rfl, Nat.zero_le _, by omega, ⟨rfl, (fun h => by cases h), .nil, hd0⟩⟩⟩, ?_⟩
  rintro _ s ⟨i, b, v, σ, fl, T, rfl, hT, rfl, hi, hb, hh⟩
  obtain ⟨J, rfl⟩ := gt_open hT
  clear hT
  obtain ⟨h0, hbv, hg, hd⟩ := hh.h
  clear hh
  have hh : Hid (blkOf v ≠ some 0 ∧ Gr pIs 43 v σ (cycs i f) ∧ Done n f i fl) := ⟨hbv, hg, hd⟩
  have hfl : fl.length = n := hd.1
  have hmul : i < n → b + (2 * n + 2) ≤ 1 + (i + 1) * (2 * n + 2) := fun _ => by rw [Nat.add_mul]; omega
  have hmul2 : i < n → 1 + (i + 1) * (2 * n + 2) ≤ 1 + n * (2 * n + 2) := fun hlt => Nat.add_le_add_left (Nat.mul_le_mul_right _ hlt) 1
  clear hbv hg hd
  refine ⟨fun hlt => ?_, fun hge => ?_⟩
  · have hmul := hmul (by omega)
    have hmul2 := hmul2 (by omega)
    refine ⟨⟨by omega, by omega⟩, ?_⟩
    obtain ⟨q, hq⟩ : ∃ q, fl[i]? = some q := ⟨fl[i]'(by omega), List.getElem?_eq_getElem _⟩
    refine ⟨_, load_k rfl rfl (contOf_live h0) (at_map hq) (by show 0 + _ * 1 = i; omega), ?_⟩
    have hld : q = true ↔ ¬ lead f i := by
      rw [← not_lead h (by omega), ← hh.h.2.2.2 i (by omega), hq]
      simp
    cases q with
    | true =>
      have hnl := hld.1 rfl
      refine ⟨⟨by omega, by omega⟩, ?_⟩
      exact ⟨_, by omega, ci ⟨i + 1, b, v, σ, fl, _, rfl, ⟨rfl, rfl, rfl, rfl, rfl, rfl, trivial⟩, rfl, by omega, by omega, ⟨h0, hh.h.1, cycs_no hnl ▸ hh.h.2.1, done_skip h (by omega) hh.h.2.2 hnl⟩⟩⟩
    | false =>
      have hlead : lead f i := Classical.byContradiction fun hc => by have := hld.2 hc; cases this
      have hin : i < n := by omega
      obtain ⟨o1, o2, o3, o4⟩ := ordr_spec h hin
      rw [hx]
      refine callq rfl (cycle_ct S hS h (by omega) (x := i) hin) (by omega) ?_
      rintro _ rfl
      rw [← hx]
      have hcl : (cyc f i).length = ordr f i := cyc_len
      refine ⟨fun m s => ∃ (k : Nat) (σ' : List StB) (fl' : List Bool) (T : List PV), s = ⟨T, σ', b + 2 * n⟩ ∧ Gt T 40 [(0, pIs xs), (3, v), (4, .own 0 0 xs.length xs.length 1), (6, pIs (cyc f i)), (13, pn xs.length), (14, pn i), (24, pIs (cyc f i)), (25, pn (cyc f i).length), (26, pn k)] ∧ m = ordr f i - k ∧ k ≤ ordr f i ∧ Hid (σ'[0]? = some (.live 4 (fl'.map PV.bool)) ∧ Gr pIs 43 v σ' (cycs i f) ∧ DoneTo n f i k fl'), ⟨_, ci ⟨0, σ, fl, _, rfl, ⟨rfl, rfl, rfl, rfl, rfl, rfl, rfl, rfl, rfl, rfl, trivial⟩, rfl, Nat.zero_le _, ⟨h0, hh.h.2.1, done_to hh.h.2.2⟩⟩⟩, ?_⟩
      rintro _ s ⟨k, σ', fl', T, rfl, hT, rfl, hk, hk2⟩
      obtain ⟨J, rfl⟩ := gt_open hT
      clear hT
      have hfl' : fl'.length = n := hk2.h.2.2.1
      refine ⟨fun hlt2 => ?_, fun hge2 => ?_⟩
      · have hit := it_lt h hin k
        refine ⟨⟨⟨by omega, by omega⟩, len_map_le (by omega)⟩, ?_⟩
        refine ⟨_, ld (at_map (cyc_at (show k < ordr f i by omega))) (by show _ * 1 = k; omega), ?_⟩
        refine ⟨⟨by omega, by omega⟩, ?_⟩
        refine ⟨_, _, hk2.h.1, ⟨rfl, by rw [List.length_map]; show 0 + it f k i * 1 + 1 ≤ _; omega, rfl⟩, _, flg_put (j := it f k i) (by show 0 + it f k i * 1 = it f k i; omega) (by omega), _, rfl, ?_⟩
        refine ⟨⟨by omega, by omega⟩, ?_⟩
        have hs0 := (List.getElem?_eq_some_iff.1 hk2.h.1).1
        exact ⟨_, by omega, ci ⟨k + 1, _, _, _, rfl, ⟨rfl, rfl, rfl, rfl, rfl, rfl, rfl, rfl, rfl, rfl, trivial⟩, rfl, by omega, ⟨by rw [List.getElem?_set_self hs0], hk2.h.2.1.keep (fun j x hj hx => by
          rw [List.getElem?_set_ne (fun e => hh.h.1 (by rw [hj, ← e]))]; exact hx), doneTo_next h hin hk2.h.2.2⟩⟩⟩
      · have hko : k = ordr f i := by omega
        subst hko
        refine ⟨by omega, part1 fzL ⟨[pIs (cyc f i)], rfl, ?_⟩⟩
        have hcn := cycs_len (f := f) (show i ≤ n by omega)
        refine appG (f := pIs) (e := 43) (y := cyc f i) hk2.h.2.1.push push_cont rfl rfl rfl rfl (by kernel_rfl) rfl rfl (by omega) (by omega) fun v' σ2 hv' hkeep hb' => ?_
        refine ⟨⟨by omega, by omega⟩, ?_⟩
        have hlen : (σ' ++ [StB.live 43 [pIs (cyc f i)]]).length = σ'.length + 1 := by simp
        exact ⟨_, by omega, ci ⟨i + 1, _, v', σ2, fl', _, rfl, ⟨rfl, rfl, rfl, rfl, rfl, rfl, trivial⟩, rfl, by omega, by omega, ⟨hkeep 0 _ hh.h.1 (push_old hk2.h.1), (fun e => by rw [hb', hlen] at e; cases e), cycs_yes hlead ▸ hv', doneTo_done h hin hk2.h.2.2⟩⟩⟩
  · have hin : i = n := by omega
    subst hin
    obtain ⟨σ', hf⟩ := hh.h.2.1.fz
    exact endf hf rfl
end Go.PI
/- THE CYCLES of the reference; lists compared. -/
open Go.Proofs
namespace Go.PI
open IM
set_option maxRecDepth 10000
set_option maxHeartbeats 4000000
variable (S : FuncId → Option (List AV → Heap → Option (AV × Heap)))
/-- w is the least one of i and of the first k of its cycle -/
def LeastTo (f : Nat → Nat) (i k w : Nat) : Prop := InC f i w ∧ w ≤ i ∧ ∀ j, j < k → w ≤ it f j i
theorem leastTo_next {f : Nat → Nat} {i k w : Nat} (h : LeastTo f i k w) : LeastTo f i (k + 1) (min w (it f k i)) := by
  refine ⟨?_, by have := h.2.1; omega, fun j hj => ?_⟩
  · rcases Nat.le_total w (it f k i) with a | a
    · rw [Nat.min_eq_left a]; exact h.1
    · rw [Nat.min_eq_right a]; exact ⟨k, rfl⟩
  · by_cases hjk : j = k
    · subst hjk; omega
    · have := h.2.2 j (by omega); omega
theorem least_lead {n : Nat} {f g : Nat → Nat} (hp : IsP n f g) {i w : Nat} (hi : i < n) (h : LeastTo f i (ordr f i) w) : w = i ↔ lead f i := by
  constructor
  · rintro rfl y hy
    obtain ⟨k, hk, e⟩ := List.mem_map.1 ((mem_cyc hp hi).2 ⟨y, rfl, hy⟩)
    have := h.2.2 k (List.mem_range.1 hk)
    omega
  · intro hl
    have := hl w h.1
    have := h.2.1
    omega
theorem fn170 : ctx.fn 170 = some c170 := by kernel_rfl
theorem rcycles_ct (hS : OldO S) {n : Nat} {f g : Nat → Nat} (h : IsP n f g) (hn : n ≤ 1000) : Ct (ctx.plus S) 170 [pIs (PL n f)] (n * (2 * n + 2)) fun r => r = pM (cycs n f) := by
  have hl : (PL n f).length = n := PL_len
  refine ct_of (hS 170 (by decide)) fn170 ?_
  refine ⟨fun m s => ∃ (i b : Nat) (v : PV) (σ : List StB) (T : List PV), s = ⟨T, σ, b⟩ ∧ Gt T 38 [(0, pIs (PL n f)), (3, v), (4, pn i)] ∧ m = n - i ∧ i ≤ n ∧ b ≤ i * (2 * n + 2) ∧ Hid (Gr pIs 43 v σ (cycs i f)), ⟨_, ci ⟨0, 0, .nils, [], _, rfl, ⟨rfl, rfl, rfl, rfl, trivial⟩, rfl, Nat.zero_le _, by omega, ⟨.nil⟩⟩⟩, ?_⟩
  rintro _ s ⟨i, b, v, σ, T, rfl, hT, rfl, hi, hb, hg⟩
  obtain ⟨J, rfl⟩ := gt_open hT
  clear hT
  have hmul : i < n → b + (2 * n + 2) ≤ (i + 1) * (2 * n + 2) := fun _ => by rw [Nat.add_mul]; omega
  have hmul2 : i < n → (i + 1) * (2 * n + 2) ≤ n * (2 * n + 2) := fun hlt => Nat.mul_le_mul_right _ hlt
  refine ⟨fun hlt => ?_, fun hge => ?_⟩
  · have hin : i < n := by omega
    have hmul := hmul hin
    have hmul2 := hmul2 hin
    obtain ⟨o1, o2, o3, o4⟩ := ordr_spec h hin
    have hcl : (cyc f i).length = ordr f i := cyc_len
    refine callq rfl (rcycle_ct S hS h (by omega) (x := i) hin) (by omega) ?_
    rintro _ rfl
    refine ⟨fun m s => ∃ (k w : Nat) (T : List PV), s = ⟨T, σ, b + 2 * n⟩ ∧ Gt T 38 [(0, pIs (PL n f)), (3, v), (4, pn i), (5, pIs (cyc f i)), (6, pn w), (7, pn k)] ∧ m = ordr f i - k ∧ k ≤ ordr f i ∧ Hid (LeastTo f i k w), ⟨_, ci ⟨0, i, _, rfl, ⟨rfl, rfl, rfl, rfl, rfl, rfl, rfl, trivial⟩, rfl, Nat.zero_le _, ⟨InC.refl _ _, Nat.le_refl _, fun j hj => by omega⟩⟩⟩, ?_⟩
    rintro _ s ⟨k, w, T, rfl, hT, rfl, hk, hw⟩
    obtain ⟨J, rfl⟩ := gt_open hT
    clear hT
    refine ⟨fun hlt2 => ?_, fun hge2 => ?_⟩
    · refine ⟨⟨⟨by omega, by omega⟩, len_map_le (by omega)⟩, ?_⟩
      refine ⟨_, ld (at_map (cyc_at (show k < ordr f i by omega))) (by show _ * 1 = k; omega), ?_⟩
      refine ⟨⟨by omega, by omega⟩, ?_⟩
      exact ⟨_, by omega, ci ⟨k + 1, min w (it f k i), _, rfl, ⟨rfl, rfl, rfl, rfl, rfl, by show pn _ = pn _; congr 1; omega, rfl, trivial⟩, rfl, by omega, ⟨leastTo_next hw.h⟩⟩⟩
    · have hko : k = ordr f i := by omega
      subst hko
      have hll := least_lead h hin hw.h
      refine ⟨fun heq => ?_, fun hne => ?_⟩
      · have hlead : lead f i := hll.1 (by omega)
        refine ⟨by omega, part1 fzL ⟨[pIs (cyc f i)], rfl, ?_⟩⟩
        have hcn := cycs_len (f := f) (show i ≤ n by omega)
        refine appG (f := pIs) (e := 43) (y := cyc f i) hg.h.push push_cont rfl rfl rfl rfl (by kernel_rfl) rfl rfl (by omega) (by omega) fun v' σ2 hv' _ _ => ?_
        refine ⟨⟨by omega, by omega⟩, ?_⟩
        exact ⟨_, by omega, ci ⟨i + 1, _, v', σ2, _, rfl, ⟨rfl, rfl, rfl, rfl, trivial⟩, rfl, by omega, by omega, ⟨cycs_yes hlead ▸ hv'⟩⟩⟩
      · have hlead : ¬ lead f i := fun hc => hne (by have := hll.2 hc; omega)
        refine ⟨⟨by omega, by omega⟩, ?_⟩
        exact ⟨_, by omega, ci ⟨i + 1, _, v, σ, _, rfl, ⟨rfl, rfl, rfl, rfl, trivial⟩, rfl, by omega, by omega, ⟨cycs_no hlead ▸ hg.h⟩⟩⟩
  · have hin : i = n := by omega
    subst hin
    obtain ⟨σ', hf⟩ := hg.h.fz
    exact endf hf rfl
theorem fn67 : ctx.fn 67 = some c67 := by kernel_rfl
def Eqs (xs ys : List Int) (i : Nat) : Prop := xs.take i = ys.take i
theorem eqs_next {xs ys : List Int} {i : Nat} {a b : Int} (h : Eqs xs ys i) (hx : xs[i]? = some a) (hy : ys[i]? = some b) (he : a = b) : Eqs xs ys (i + 1) := by
  unfold Eqs at *
  rw [take_snoc hx, take_snoc hy, h, he]
theorem ints_ct (hS : OldO S) {xs ys : List Int} (hx : xs.length ≤ 1000000) (hy : ys.length ≤ 1000000) : Ct (ctx.plus S) 67 [pIs xs, pIs ys] 0 fun r => r = .bool (decide (xs = ys)) := by
  refine ct_of (hS 67 (by decide)) fn67 ?_
  refine ⟨fun hne => ?_, fun heq => ?_⟩
  · exact endq rfl (by rw [decide_eq_false (fun h => hne (by rw [h]))])
  have hle : xs.length = ys.length := by omega
  refine ⟨fun m s => ∃ (i : Nat) (T : List PV), s = ⟨T, [], 0⟩ ∧ Gt T 26 [(0, pIs xs), (1, pIs ys), (5, pn i)] ∧ m = xs.length - i ∧ i ≤ xs.length ∧ Hid (Eqs xs ys i), ⟨_, ci ⟨0, _, rfl, ⟨rfl, rfl, rfl, rfl, trivial⟩, rfl, Nat.zero_le _, ⟨rfl⟩⟩⟩, ?_⟩
  rintro _ s ⟨i, T, rfl, hT, rfl, hi, hn⟩
  obtain ⟨J, rfl⟩ := gt_open hT
  clear hT
  refine ⟨fun hlt => ?_, fun hge => ?_⟩
  · obtain ⟨a, ha⟩ := xs_get (xs := xs) (i := i) (by omega)
    obtain ⟨b, hb⟩ := xs_get (xs := ys) (i := i) (by omega)
    refine ⟨by kernel_rfl, ?_⟩
    refine ⟨⟨⟨by omega, by omega⟩, len_map_le (by omega)⟩, ?_⟩
    refine ⟨_, ld (at_map ha) (by show _ * 1 = i; omega), rfl, ?_⟩
    refine ⟨⟨⟨by omega, by omega⟩, len_map_le (by omega)⟩, ?_⟩
    refine ⟨_, ld (at_map hb) (by show _ * 1 = i; omega), rfl, ?_⟩
    refine ⟨fun hne => ?_, fun heq => ?_⟩
    · exact endq rfl (by rw [decide_eq_false (fun h => by rw [h, hb] at ha; cases ha; exact hne rfl)])
    · refine ⟨⟨by omega, by omega⟩, ?_⟩
      exact ⟨_, by omega, ci ⟨i + 1, _, rfl, ⟨rfl, rfl, rfl, rfl, trivial⟩, rfl, by omega, ⟨eqs_next hn.h ha hb (by omega)⟩⟩⟩
  · exact endq rfl (by rw [decide_eq_true (by have := hn.h; unfold Eqs at this; rwa [List.take_of_length_le (by omega), List.take_of_length_le (by omega)] at this)])
theorem eqs_nextM {xs ys : List (List Int)} {i : Nat} {a b : List Int} (h : xs.take i = ys.take i) (hx : xs[i]? = some a) (hy : ys[i]? = some b) (he : a = b) : xs.take (i + 1) = ys.take (i + 1) := by
  rw [List.take_add_one, List.take_add_one, hx, hy, h, he]
theorem xs_getM {xs : List (List Int)} {i : Nat} (h : i < xs.length) : ∃ e, xs[i]? = some e := ⟨xs[i], List.getElem?_eq_getElem _⟩
end Go.PI
/- ANSWERS of the program; the law of vertices. -/
open Go.Proofs
namespace Go.PI
open IM
set_option maxRecDepth 10000
set_option maxHeartbeats 4000000
variable (S : FuncId → Option (List AV → Heap → Option (AV × Heap)))
def flO (L : List (List Int × List Int)) : List PV := L.flatMap fun p => [pIs p.1, pIs p.2]
/-- a slice of origamis -/
def pOs (L : List (List Int × List Int)) : PV := .lst L.length (flO L)
theorem flO_len : ∀ {L : List (List Int × List Int)}, (flO L).length = 2 * L.length
  | [] => rfl
  | p :: L => by
    have := flO_len (L := L)
    unfold flO at this ⊢
    rw [List.flatMap_cons, List.length_append, this]
    simp only [List.length_cons, List.length_nil]
    omega
theorem flO_at : ∀ {L : List (List Int × List Int)} {i q : Nat} {r u : List Int}, L[i]? = some (r, u) → q = 2 * i → ((flO L).drop q).take 2 = [pIs r, pIs u]
  | [], _, _, _, _, h, _ => by simp at h
  | p :: L, 0, _, r, u, h, hq => by
    simp at h
    subst h; subst hq
    rfl
  | p :: L, i + 1, q, r, u, h, hq => by
    have e : flO (p :: L) = pIs p.1 :: pIs p.2 :: flO L := rfl
    rw [e, hq, show 2 * (i + 1) = 2 * i + 1 + 1 by omega, List.drop_succ_cons, List.drop_succ_cons]
    exact flO_at (by simpa using h) rfl
open Classical in
/-- the error of the first one that has one -/
noncomputable def chkA : List (List Int × List Int) → Int
  | [] => 0
  | p :: L => if chkO p.1 p.2 ≠ 0 then chkO p.1 p.2 else chkA L
theorem chkA_bad : ∀ {L : List (List Int × List Int)} {i : Nat} {r u : List Int}, (∀ p ∈ L.take i, chkO p.1 p.2 = 0) → L[i]? = some (r, u) → chkO r u ≠ 0 → chkA L = chkO r u
  | [], _, _, _, _, h, _ => by simp at h
  | p :: L, 0, r, u, _, h, h2 => by
    simp at h
    subst h
    unfold chkA; rw [if_pos h2]
  | p :: L, i + 1, r, u, h0, h, h2 => by
    have := h0 p (by simp)
    unfold chkA
    rw [if_neg (fun e => e this)]
    exact chkA_bad (i := i) (fun q hq => h0 q (by simp [hq])) (by simpa using h) h2
theorem chkA_ok : ∀ {L : List (List Int × List Int)}, (∀ p ∈ L, chkO p.1 p.2 = 0) → chkA L = 0
  | [], _ => rfl
  | p :: L, h => by
    unfold chkA
    rw [if_neg (fun e => e (h p (by simp)))]
    exact chkA_ok fun q hq => h q (by simp [hq])
theorem chkA_one {r u : List Int} : chkA [(r, u)] = chkO r u := by
  unfold chkA
  by_cases h : chkO r u = 0
  · rw [if_neg (fun e => e h), h]; rfl
  · rw [if_pos h]
theorem fn187 : ctx.fn 187 = some c187 := by kernel_rfl
theorem checkAll_ct (hS : OldO S) {L : List (List Int × List Int)} (hL : L.length ≤ 10) (hl : ∀ p ∈ L, p.1.length ≤ 1000000 ∧ p.2.length ≤ 1000000) : Ct (ctx.plus S) 187 [pOs L] (6 * L.length) fun v => v = pn (chkA L) := by
  refine ct_of (hS 187 (by decide)) fn187 ?_
  refine ⟨fun m s => ∃ (i b : Nat) (σ : List StB) (T : List PV), s = ⟨T, σ, b⟩ ∧ Gt T 18 [(6, pOs L), (7, pn L.length), (8, pn i)] ∧ m = L.length - i ∧ i ≤ L.length ∧ b ≤ 6 * i ∧ Hid (∀ p ∈ L.take i, chkO p.1 p.2 = 0), ⟨_, ci ⟨0, 0, [], _, rfl, ⟨rfl, rfl, rfl, rfl, trivial⟩, rfl, Nat.zero_le _, Nat.le_refl _, ⟨fun p hp => by simp at hp⟩⟩⟩, ?_⟩
  rintro _ s ⟨i, b, σ, T, rfl, hT, rfl, hi, hb, hz⟩
  obtain ⟨J, rfl⟩ := gt_open hT
  clear hT
  refine ⟨fun hlt => ?_, fun hge => ?_⟩
  · obtain ⟨⟨r, u⟩, he⟩ : ∃ p, L[i]? = some p := ⟨L[i]'(by omega), List.getElem?_eq_getElem _⟩
    obtain ⟨l1, l2⟩ := hl _ (List.mem_of_getElem? he)
    have hfl : (flO L).length = 2 * L.length := flO_len
    refine ⟨⟨⟨by omega, by omega⟩, by rw [hfl]; show i * 2 ≤ _; omega⟩, ?_⟩
    have hat : ∀ q, q = 2 * i → partP t45 ((flO L).drop q) 0 = some (pO r u) := fun q hq => by
      show (if 0 + 2 ≤ ((flO L).drop q).length then some (PV.agg ((((flO L).drop q).drop 0).take 2)) else none) = _
      rw [if_pos (by rw [List.length_drop, hfl]; omega), List.drop_zero, flO_at he hq]
      rfl
    refine ⟨_, hat _ (by show _ * 2 = _; omega), ?_⟩
    refine ⟨by omega, ?_⟩
    refine ⟨_, _, push_get, ⟨rfl, by decide, rfl⟩, _, rfl, _, push_set, ?_⟩
    refine ⟨_, (show ploadE _ _ 45 (.optr σ.length 0) = some (pO r u) by unfold ploadE; rw [show (ctx.plus S).ty 45 = some t45 from rfl]; simp only [push_cont]; rfl), ?_⟩
    refine callq rfl (check_ct S hS l1 l2) (by omega) ?_
    rintro _ rfl
    refine ⟨fun h0 => ?_, fun h0 => ?_⟩
    · exact endq rfl (by rw [chkA_bad hz.h he h0])
    · refine ⟨⟨by omega, by omega⟩, ?_⟩
      exact ⟨_, by omega, ci ⟨i + 1, _, _, _, rfl, ⟨rfl, rfl, rfl, rfl, trivial⟩, rfl, by omega, by omega, ⟨fun p hp => by
        rw [List.take_add_one, he] at hp
        rcases List.mem_append.1 hp with hp | hp
        · exact hz.h p hp
        · simp at hp; subst hp; exact h0⟩⟩⟩
  · exact endq rfl (by rw [chkA_ok]; have := hz.h; rwa [List.take_of_length_le (by omega)] at this)
theorem check1_ct (hS : OldO S) {r u : List Int} (l1 : r.length ≤ 1000000) (l2 : u.length ≤ 1000000) : Ct (ctx.plus S) 187 [pOs [(r, u)]] 6 fun v => v = pn (chkO r u) := by
  have := checkAll_ct S hS (L := [(r, u)]) (by simp) (fun p hp => by rw [List.mem_singleton.1 hp]; exact ⟨l1, l2⟩)
  rw [chkA_one] at this
  exact this
theorem nodup_PL {n : Nat} {f g : Nat → Nat} (h : IsP n f g) : (PL n f).Nodup := by
  unfold PL List.Nodup
  rw [List.pairwise_map]
  refine List.pairwise_lt_range.imp_of_mem fun {a b} ha hb hab e => ?_
  have := h.inj (List.mem_range.1 ha) (List.mem_range.1 hb) (by omega)
  omega
theorem IsO.chk {r u : List Int} {n : Nat} {f f' g g' : Nat → Nat} (h : IsO r u n f f' g g') : chkO r u = 0 := by
  obtain ⟨h0, hn, rfl, rfl, pr, pu⟩ := h
  rw [chkOu (by simp only [PL_len]; omega) (by rw [PL_len]; omega) (chk0 (inR_PL pr) (nodup_PL pr)), chk0 (inR_PL pu) (nodup_PL pu)]
theorem IsO.l1 {r u : List Int} {n : Nat} {f f' g g' : Nat → Nat} (h : IsO r u n f f' g g') : r.length = n ∧ u.length = n := by rw [h.hr, h.hu]; exact ⟨PL_len, PL_len⟩
theorem fn235 : ctx.fn 235 = some c235 := by kernel_rfl
theorem vertices_ct (hS : OldO S) {r u : List Int} {n : Nat} {f f' g g' : Nat → Nat} (h : IsO r u n f f' g g') : Ct (ctx.plus S) 235 [pO r u] 10000 fun v => v = pM (cycs n (cmf f f' g g')) := by
  have hn := h.le
  have hm : n * (2 * n + 2) ≤ 60 * 122 := Nat.mul_le_mul hn (by omega)
  refine ct_of (hS 235 (by decide)) fn235 ?_
  refine ⟨by omega, ?_⟩
  refine ⟨_, rfl, ?_⟩
  refine callq rfl (commutator_ct S hS h) (by omega) ?_
  rintro _ rfl
  refine callq rfl (cycles_ct S hS h.cm (by omega)) (by omega) ?_
  rintro _ rfl
  exact endq rfl rfl
theorem cycs_mem {n : Nat} {f g : Nat → Nat} (h : IsP n f g) : ∀ x ∈ cycs n f, x.length ≤ n := fun x hx => by
  unfold cycs at hx
  obtain ⟨i, hi, rfl⟩ := List.mem_map.1 hx
  have := List.mem_range.1 (List.mem_filter.1 hi).1
  rw [cyc_len]
  exact (ordr_spec h this).2.2.1
end Go.PI
/- COVERINGS: what is asked of a list, of the program and of the reference. -/
open Go.Proofs
namespace Go.PI
open IM
set_option maxRecDepth 10000
set_option maxHeartbeats 4000000
variable (S : FuncId → Option (List AV → Heap → Option (AV × Heap)))
theorem fn256 : ctx.fn 256 = some c256 := by kernel_rfl
theorem neighbours_ct (hS : OldO S) {r u : List Int} {n x : Nat} {f f' g g' : Nat → Nat} (h : IsO r u n f f' g g') (hx : x < n) : Ct (ctx.plus S) 256 [pO r u, pn x] 2 fun v => v = .agg [pn (f x), pn (g x)] := by
  obtain ⟨h0, hn, rfl, rfl, pr, pu⟩ := h
  have l1 : (PL n f).length = n := PL_len
  have l2 : (PL n g).length = n := PL_len
  refine ct_of (hS 256 (by decide)) fn256 ?_
  refine ⟨by omega, by omega, ?_⟩
  refine ⟨by kernel_rfl, ?_⟩
  refine ⟨_, rfl, rfl, ?_⟩
  refine ⟨⟨⟨by omega, by omega⟩, len_map_le (by omega)⟩, ?_⟩
  refine ⟨_, ld (at_map (PL_get hx)) (by show _ * 1 = x; omega), rfl, ?_⟩
  refine ⟨_, rfl, rfl, ?_⟩
  refine ⟨⟨⟨by omega, by omega⟩, len_map_le (by omega)⟩, ?_⟩
  refine ⟨_, ld (at_map (PL_get hx)) (by show _ * 1 = x; omega), rfl, ?_⟩
  refine partc rfl ⟨_, rfl, ?_⟩
  refine ⟨_, _, rfl, ⟨rfl, Nat.le_refl 2, rfl⟩, _, rfl, _, rfl, ?_⟩
  exact ⟨_, rfl, endq rfl rfl⟩
/-- squares of an origami of m squares -/
def InB (fs : List Int) (m : Nat) : Prop := ∀ x ∈ fs, 0 ≤ x ∧ x < m
end Go.PI
/- COVERINGS: whether a list is one, of the program and of the reference. -/
open Go.Proofs
namespace Go.PI
open IM
set_option maxRecDepth 10000
set_option maxHeartbeats 4000000
variable (S : FuncId → Option (List AV → Heap → Option (AV × Heap)))
/-- a map of n squares to m squares -/
structure IsF (fs : List Int) (n m : Nat) (h : Nat → Nat) : Prop where
  eq : fs = PL n h
  lt : ∀ x, x < n → h x < m
theorem isF_of {fs : List Int} {n m : Nat} (hl : fs.length = n) (hb : InB fs m) : ∃ h, IsF fs n m h := by
  have hget : ∀ i, i < n → fs[i]? = some (((fs.getD i 0).toNat : Nat) : Int) := fun i hi => by
    have e := List.getElem?_eq_getElem (show i < fs.length by omega)
    have := hb _ (List.getElem_mem (show i < fs.length by omega))
    rw [List.getD_eq_getElem?_getD, e]
    simp only [Option.getD_some]
    congr 1
    omega
  refine ⟨fun i => (fs.getD i 0).toNat, PL_ext hl hget, fun i hi => ?_⟩
  have := hb _ (List.mem_of_getElem? (hget i hi))
  show (fs.getD i 0).toNat < m
  omega
/-- the steps are kept -/
def Keeps (n : Nat) (h f g F G : Nat → Nat) : Prop := ∀ x, x < n → h (f x) = F (h x) ∧ h (g x) = G (h x)
def OntoP (fs : List Int) (m : Nat) : Prop := ∀ y : Nat, y < m → (y : Int) ∈ fs
/-! keys of a map -/
def keysOf (es : List (Int × PV)) : List Int := es.map (·.1)
theorem keys_set {n : Int} {v : PV} : ∀ {es : List (Int × PV)}, (keysOf es).Nodup → (keysOf (pmapSet es n v)).Nodup ∧ ∀ k, k ∈ keysOf (pmapSet es n v) ↔ k = n ∨ k ∈ keysOf es
  | [], _ => ⟨by simp [pmapSet, keysOf], fun k => by simp [pmapSet, keysOf]⟩
  | (k0, x) :: es, h => by
    have h2 := List.nodup_cons.1 (show (k0 :: keysOf es).Nodup from h)
    unfold pmapSet
    cases hb : k0 == n with
    | true =>
      have : k0 = n := by simpa using hb
      subst this
      refine ⟨h, fun k => ?_⟩
      show k ∈ k0 :: keysOf es ↔ k = k0 ∨ k ∈ k0 :: keysOf es
      simp
    | false =>
      have hne : k0 ≠ n := by simpa using hb
      obtain ⟨i1, i2⟩ := keys_set (n := n) (v := v) h2.2
      refine ⟨?_, fun k => ?_⟩
      · show (k0 :: keysOf (pmapSet es n v)).Nodup
        exact List.nodup_cons.2 ⟨fun hm => by
          rcases (i2 k0).1 hm with e | e
          · exact hne e
          · exact h2.1 e, i1⟩
      · show k ∈ k0 :: keysOf (pmapSet es n v) ↔ k = n ∨ k ∈ k0 :: keysOf es
        rw [List.mem_cons, i2, List.mem_cons]
        constructor
        · rintro (a | a | a)
          · exact .inr (.inl a)
          · exact .inl a
          · exact .inr (.inr a)
        · rintro (a | a | a)
          · exact .inr (.inl a)
          · exact .inl a
          · exact .inr (.inr a)
/-- the map whose keys are the first k of fs -/
def Cov (fs : List Int) (k : Nat) (es : List (Int × PV)) : Prop := (keysOf es).Nodup ∧ ∀ y, y ∈ keysOf es ↔ y ∈ fs.take k
theorem cov_next {fs : List Int} {k : Nat} {es : List (Int × PV)} {y : Int} {v : PV} (h : Cov fs k es) (hy : fs[k]? = some y) : Cov fs (k + 1) (pmapSet es y v) := by
  obtain ⟨i1, i2⟩ := keys_set (n := y) (v := v) h.1
  refine ⟨i1, fun z => ?_⟩
  rw [i2, take_snoc hy, List.mem_append, h.2]
  simp [or_comm]
theorem cov_len {fs : List Int} {es : List (Int × PV)} {m : Nat} (h : Cov fs fs.length es) (hb : InB fs m) : (es.length = m ↔ OntoP fs m) ∧ es.length ≤ m := by
  have hk : ∀ y, y ∈ keysOf es ↔ y ∈ fs := fun y => by rw [h.2, List.take_length]
  have hl : (keysOf es).length = es.length := by simp [keysOf]
  have hsub : ∀ y ∈ keysOf es, y ∈ List.map (fun k : Nat => (k : Int)) (List.range m) := fun y hy => by
    have := hb y ((hk y).1 hy)
    exact List.mem_map.2 ⟨y.toNat, List.mem_range.2 (by omega), by omega⟩
  have hle := len_le_of h.1 hsub
  rw [hl] at hle
  simp only [List.length_map, List.length_range] at hle
  refine ⟨⟨fun e y hy => ?_, fun ho => ?_⟩, hle⟩
  · rw [← hk]
    refine Classical.byContradiction fun hc => ?_
    have := len_le_of (l := (y : Int) :: keysOf es) (List.nodup_cons.2 ⟨hc, h.1⟩) (m := List.map (fun k : Nat => (k : Int)) (List.range m)) fun z hz => by
      rcases List.mem_cons.1 hz with rfl | hz
      · exact List.mem_map.2 ⟨y, List.mem_range.2 hy, rfl⟩
      · exact hsub z hz
    simp only [List.length_cons, List.length_map, List.length_range] at this
    omega
  · have hnd : (List.map (fun k : Nat => (k : Int)) (List.range m)).Nodup := by
      unfold List.Nodup
      rw [List.pairwise_map]
      exact List.pairwise_lt_range.imp fun hab e => by omega
    have := len_le_of hnd (m := keysOf es) fun z hz => by
      obtain ⟨k, hk2, rfl⟩ := List.mem_map.1 hz
      exact (hk _).2 (ho k (List.mem_range.1 hk2))
    simp only [List.length_map, List.length_range] at this
    omega
def CovP (fs : List Int) (n m : Nat) (h f g F G : Nat → Nat) : Prop := Keeps n h f g F G ∧ OntoP fs m
end Go.PI
/- COVERINGS: the checks whole; the law of proofs. -/
open Go.Proofs
namespace Go.PI
open IM
set_option maxRecDepth 10000
set_option maxHeartbeats 4000000
variable (S : FuncId → Option (List AV → Heap → Option (AV × Heap)))
theorem PL_getD {n : Nat} {f : Nat → Nat} {i : Nat} (h : i < n) : (PL n f).getD i 0 = (f i : Int) := by rw [List.getD_eq_getElem?_getD, PL_get h]; rfl
def CovL (r u r2 u2 fs : List Int) : Prop := (∀ x : Nat, x < r.length → fs.getD (r.getD x 0).toNat 0 = r2.getD (fs.getD x 0).toNat 0 ∧ fs.getD (u.getD x 0).toNat 0 = u2.getD (fs.getD x 0).toNat 0) ∧ OntoP fs r2.length
theorem covL_iff {r u r2 u2 fs : List Int} {n m : Nat} {f f' g g' F F' G G' h : Nat → Nat} (ho : IsO r u n f f' g g') (ho2 : IsO r2 u2 m F F' G G') (hf : IsF fs n m h) : CovL r u r2 u2 fs ↔ CovP fs n m h f g F G := by
  have l1 := ho.l1.1
  have l2 := ho2.l1.1
  unfold CovL CovP
  rw [l2]
  refine and_congr ?_ Iff.rfl
  rw [l1]
  have key : ∀ x, x < n → (fs.getD (r.getD x 0).toNat 0 = r2.getD (fs.getD x 0).toNat 0 ∧ fs.getD (u.getD x 0).toNat 0 = u2.getD (fs.getD x 0).toNat 0 ↔ h (f x) = F (h x) ∧ h (g x) = G (h x)) := fun x hx => by
    have a := ho.pr.lt x hx
    have b := ho.pu.lt x hx
    have c := hf.lt x hx
    rw [ho.hr, ho.hu, ho2.hr, ho2.hu, hf.eq, PL_getD hx, PL_getD hx, PL_getD hx, Int.toNat_natCast, Int.toNat_natCast, Int.toNat_natCast, PL_getD a, PL_getD b, PL_getD c, PL_getD c]
    omega
  exact ⟨fun h x hx => (key x hx).1 (h x hx), fun h x hx => (key x hx).2 (h x hx)⟩
open Classical in
noncomputable def chkM (r u r2 u2 fs : List Int) (same : Bool) : Int :=
  if chkA [(r, u), (r2, u2)] ≠ 0 then chkA [(r, u), (r2, u2)] else if fs.length ≠ r.length ∨ (same = true ∧ r.length ≠ r2.length) then 10 else if ¬ InB fs r2.length then 2 else if CovL r u r2 u2 fs then 0 else 18
section
variable {r u r2 u2 fs : List Int} {same : Bool}
theorem chkM_a (h : chkA [(r, u), (r2, u2)] ≠ 0) : chkM r u r2 u2 fs same = chkA [(r, u), (r2, u2)] := by unfold chkM; rw [if_pos h]
theorem chkM_10 (h : chkA [(r, u), (r2, u2)] = 0) (h2 : fs.length ≠ r.length ∨ (same = true ∧ r.length ≠ r2.length)) : chkM r u r2 u2 fs same = 10 := by unfold chkM; rw [if_neg (fun e => e h), if_pos h2]
theorem chkM_2 (h : chkA [(r, u), (r2, u2)] = 0) (h2 : ¬ (fs.length ≠ r.length ∨ (same = true ∧ r.length ≠ r2.length))) (h3 : ¬ InB fs r2.length) : chkM r u r2 u2 fs same = 2 := by unfold chkM; rw [if_neg (fun e => e h), if_neg h2, if_pos h3]
theorem chkM_0 (h : chkA [(r, u), (r2, u2)] = 0) (h2 : ¬ (fs.length ≠ r.length ∨ (same = true ∧ r.length ≠ r2.length))) (h3 : InB fs r2.length) (h4 : CovL r u r2 u2 fs) : chkM r u r2 u2 fs same = 0 := by unfold chkM; rw [if_neg (fun e => e h), if_neg h2, if_neg (fun e => e h3), if_pos h4]
theorem chkM_18 (h : chkA [(r, u), (r2, u2)] = 0) (h2 : ¬ (fs.length ≠ r.length ∨ (same = true ∧ r.length ≠ r2.length))) (h3 : InB fs r2.length) (h4 : ¬ CovL r u r2 u2 fs) : chkM r u r2 u2 fs same = 18 := by unfold chkM; rw [if_neg (fun e => e h), if_neg h2, if_neg (fun e => e h3), if_neg h4]
theorem chkA_two : chkA [(r, u), (r2, u2)] = 0 ↔ chkO r u = 0 ∧ chkO r2 u2 = 0 := by
  show (if chkO r u ≠ 0 then chkO r u else chkA [(r2, u2)]) = 0 ↔ _
  rw [chkA_one]
  by_cases h : chkO r u = 0
  · rw [if_neg (fun e => e h)]; simp [h]
  · rw [if_pos h]; simp [h]
theorem chkA_fst (h : chkO r u ≠ 0) : chkA [(r, u), (r2, u2)] = chkO r u := by
  show (if chkO r u ≠ 0 then chkO r u else chkA [(r2, u2)]) = _
  rw [if_pos h]
theorem chkA_snd (h : chkO r u = 0) : chkA [(r, u), (r2, u2)] = chkO r2 u2 := by
  show (if chkO r u ≠ 0 then chkO r u else chkA [(r2, u2)]) = _
  rw [if_neg (fun e => e h), chkA_one]
theorem chkA_valid (h : chkA [(r, u), (r2, u2)] = 0) : ∃ n m f f' g g' F F' G G', IsO r u n f f' g g' ∧ IsO r2 u2 m F F' G G' := by
  obtain ⟨a, b⟩ := chkA_two.1 h
  obtain ⟨n, f, f', g, g', ho⟩ := chkO_ok a
  obtain ⟨m, F, F', G, G', ho2⟩ := chkO_ok b
  exact ⟨n, m, f, f', g, g', F, F', G, G', ho, ho2⟩
end
theorem check2_ct (hS : OldO S) {r u r2 u2 : List Int} (l1 : r.length ≤ 1000000) (l2 : u.length ≤ 1000000) (l3 : r2.length ≤ 1000000) (l4 : u2.length ≤ 1000000) : Ct (ctx.plus S) 187 [pOs [(r, u), (r2, u2)]] 12 fun v => v = pn (chkA [(r, u), (r2, u2)]) :=
  checkAll_ct S hS (L := [(r, u), (r2, u2)]) (by simp) (fun p hp => by
    rcases List.mem_cons.1 hp with rfl | hp
    · exact ⟨l1, l2⟩
    · rw [List.mem_singleton.1 hp]; exact ⟨l3, l4⟩)
theorem chkM_same {r u r2 u2 fs : List Int} (h : r.length = r2.length) : chkM r u r2 u2 fs true = chkM r u r2 u2 fs false := by
  unfold chkM
  simp [h]
theorem fn66 : ctx.fn 66 = some c66 := by kernel_rfl
theorem size_ct (hS : OldO S) {r u : List Int} : Ct (ctx.plus S) 66 [pO r u] 1 fun v => v = pn r.length := by
  refine ct_of (hS 66 (by decide)) fn66 ?_
  refine ⟨by omega, ?_⟩
  refine ⟨_, rfl, ?_⟩
  exact endq rfl rfl
end Go.PI
/- SQUARES in the order in which they are reached. -/
namespace Go.PI
def addL (xs : List Nat) (x : Nat) : List Nat := if x ∈ xs then xs else xs ++ [x]
theorem addL_mem {xs : List Nat} {x y : Nat} : y ∈ addL xs x ↔ y ∈ xs ∨ y = x := by
  unfold addL
  by_cases h : x ∈ xs
  · rw [if_pos h]
    exact ⟨.inl, fun a => by rcases a with a | rfl; exact a; exact h⟩
  · rw [if_neg h]; simp
theorem addL_nodup {xs : List Nat} {x : Nat} (h : xs.Nodup) : (addL xs x).Nodup := by
  unfold addL
  by_cases hx : x ∈ xs
  · rw [if_pos hx]; exact h
  · rw [if_neg hx]
    exact List.nodup_append.2 ⟨h, by simp, fun a ha b hb => by rw [List.mem_singleton.1 hb]; rintro rfl; exact hx ha⟩
theorem addL_pre {xs : List Nat} {x : Nat} : xs <+: addL xs x := by
  unfold addL
  by_cases hx : x ∈ xs
  · rw [if_pos hx]; exact List.prefix_refl _
  · rw [if_neg hx]; exact List.prefix_append _ _
theorem addL_get {xs : List Nat} {x y p : Nat} (h : (addL xs x)[p]? = some y) : xs[p]? = some y ∨ (p = xs.length ∧ y = x) := by
  unfold addL at h
  by_cases hx : x ∈ xs
  · rw [if_pos hx] at h; exact .inl h
  · rw [if_neg hx] at h
    rcases Nat.lt_trichotomy p xs.length with a | a | a
    · rw [List.getElem?_append_left a] at h; exact .inl h
    · subst a; simp at h; exact .inr ⟨rfl, h.symm⟩
    · rw [List.getElem?_eq_none (by simp; omega)] at h; cases h
section
variable (f g : Nat → Nat) (s : Nat)
def nxt (xs : List Nat) (i : Nat) : List Nat :=
  match xs[i]? with
  | some x => addL (addL xs (f x)) (g x)
  | none => xs
def bfs : Nat → List Nat
  | 0 => [s]
  | i + 1 => nxt f g (bfs i) i
/-- reached by some steps -/
inductive Rch : Nat → Prop
  | refl : Rch s
  | f {y : Nat} (h : Rch y) : Rch (f y)
  | g {y : Nat} (h : Rch y) : Rch (g y)
/-- reached by at most k steps -/
def RchK : Nat → Nat → Prop
  | 0, y => y = s
  | k + 1, y => RchK k y ∨ ∃ z, RchK k z ∧ (y = f z ∨ y = g z)
end
section
variable {f g : Nat → Nat} {s : Nat}
theorem nxt_at {xs : List Nat} {i x : Nat} (h : xs[i]? = some x) : nxt f g xs i = addL (addL xs (f x)) (g x) := by unfold nxt; rw [h]
theorem nxt_pre {xs : List Nat} {i : Nat} : xs <+: nxt f g xs i := by
  unfold nxt
  split
  · exact List.IsPrefix.trans addL_pre addL_pre
  · exact List.prefix_refl _
theorem bfs_pre : ∀ (k : Nat) {i : Nat}, bfs f g s i <+: bfs f g s (i + k)
  | 0, _ => List.prefix_refl _
  | k + 1, i => List.IsPrefix.trans (bfs_pre k) (show bfs f g s (i + k) <+: nxt f g (bfs f g s (i + k)) (i + k) from nxt_pre)
theorem bfs_nodup : ∀ i, (bfs f g s i).Nodup
  | 0 => by simp [bfs]
  | i + 1 => by
    show (nxt f g (bfs f g s i) i).Nodup
    unfold nxt
    split
    · exact addL_nodup (addL_nodup (bfs_nodup i))
    · exact bfs_nodup i
theorem bfs_lt {n : Nat} {f' g' : Nat → Nat} (pf : IsP n f f') (pg : IsP n g g') (hs : s < n) : ∀ i, ∀ y ∈ bfs f g s i, y < n
  | 0, y, hy => by rw [List.mem_singleton.1 hy]; exact hs
  | i + 1, y, hy => by
    have ih := bfs_lt pf pg hs i
    change y ∈ nxt f g (bfs f g s i) i at hy
    unfold nxt at hy
    split at hy
    · rename_i x hx
      have hxn := ih x (List.mem_of_getElem? hx)
      rcases addL_mem.1 hy with hy | rfl
      · rcases addL_mem.1 hy with hy | rfl
        · exact ih y hy
        · exact pf.lt x hxn
      · exact pg.lt x hxn
    · exact ih y hy
theorem bfs_len {n : Nat} {f' g' : Nat → Nat} (pf : IsP n f f') (pg : IsP n g g') (hs : s < n) (i : Nat) : (bfs f g s i).length ≤ n := by
  have := len_le_of (bfs_nodup (f := f) (g := g) (s := s) i) (m := List.range n) fun y hy => List.mem_range.2 (bfs_lt pf pg hs i y hy)
  rwa [List.length_range] at this
theorem bfs_get {i p k y : Nat} (h : (bfs f g s i)[p]? = some y) : (bfs f g s (i + k))[p]? = some y := by
  obtain ⟨t, ht⟩ := bfs_pre (f := f) (g := g) (s := s) k (i := i)
  rw [← ht, List.getElem?_append_left (List.getElem?_eq_some_iff.1 h).1]
  exact h
theorem bfs_mem {i k y : Nat} (h : y ∈ bfs f g s i) : y ∈ bfs f g s (i + k) := (bfs_pre (f := f) (g := g) (s := s) k (i := i)).subset h
/-- those that have been gone through -/
theorem bfs_steps {i p y : Nat} (hp : p < i) (h : (bfs f g s i)[p]? = some y) : f y ∈ bfs f g s i ∧ g y ∈ bfs f g s i := by
  have hy : (bfs f g s p)[p]? = some y ∨ p ≥ (bfs f g s p).length := by
    rcases Nat.lt_or_ge p (bfs f g s p).length with a | a
    · obtain ⟨z, hz⟩ : ∃ z, (bfs f g s p)[p]? = some z := ⟨_, List.getElem?_eq_getElem a⟩
      have := bfs_get (k := i - p) hz
      rw [show p + (i - p) = i by omega, h] at this
      cases this
      exact .inl hz
    · exact .inr a
  rcases hy with hy | hy
  · have e : bfs f g s (p + 1) = addL (addL (bfs f g s p) (f y)) (g y) := nxt_at hy
    have h1 : f y ∈ bfs f g s (p + 1) := by rw [e, addL_mem, addL_mem]; exact .inl (.inr rfl)
    have h2 : g y ∈ bfs f g s (p + 1) := by rw [e, addL_mem]; exact .inr rfl
    have a := bfs_mem (k := i - (p + 1)) h1
    have b := bfs_mem (k := i - (p + 1)) h2
    rw [show p + 1 + (i - (p + 1)) = i by omega] at a b
    exact ⟨a, b⟩
  · exfalso
    have hst : ∀ k, bfs f g s (p + k) = bfs f g s p := by
      intro k
      induction k with
      | zero => rfl
      | succ k ih =>
        show nxt f g (bfs f g s (p + k)) (p + k) = _
        rw [ih]
        unfold nxt
        rw [List.getElem?_eq_none (by omega)]
    have := hst (i - p)
    rw [show p + (i - p) = i by omega] at this
    rw [this, List.getElem?_eq_none hy] at h
    cases h
theorem bfs_stop {k : Nat} (h : (bfs f g s k).length ≤ k) : ∀ m, bfs f g s (k + m) = bfs f g s k
  | 0 => rfl
  | m + 1 => by
    show nxt f g (bfs f g s (k + m)) (k + m) = _
    rw [bfs_stop h m]
    unfold nxt
    rw [List.getElem?_eq_none (by omega)]
/-- all that are reached -/
theorem bfs_all {k : Nat} (h : (bfs f g s k).length ≤ k) {y : Nat} (hy : Rch f g s y) : y ∈ bfs f g s k := by
  induction hy with
  | refl =>
    have := bfs_mem (k := k) (show s ∈ bfs f g s 0 by simp [bfs])
    rwa [Nat.zero_add] at this
  | f _ ih =>
    obtain ⟨p, hp⟩ := List.getElem?_of_mem ih
    have := (List.getElem?_eq_some_iff.1 hp).1
    exact (bfs_steps (by omega) hp).1
  | g _ ih =>
    obtain ⟨p, hp⟩ := List.getElem?_of_mem ih
    have := (List.getElem?_eq_some_iff.1 hp).1
    exact (bfs_steps (by omega) hp).2
theorem rchK_mono {k y : Nat} : ∀ m, RchK f g s k y → RchK f g s (k + m) y
  | 0, h => h
  | m + 1, h => .inl (rchK_mono m h)
theorem rchK_rch : ∀ {k y : Nat}, RchK f g s k y → Rch f g s y
  | 0, _, h => by rw [show _ = s from h]; exact .refl
  | k + 1, y, h => by
    rcases h with h | ⟨z, h, rfl | rfl⟩
    · exact rchK_rch h
    · exact .f (rchK_rch h)
    · exact .g (rchK_rch h)
/-- where one stands, it is reached within as many steps -/
theorem bfs_dist : ∀ (i p y : Nat), (bfs f g s i)[p]? = some y → RchK f g s p y
  | 0, p, y, h => by
    cases p with
    | zero => simp [bfs] at h; exact h.symm
    | succ p => simp [bfs] at h
  | i + 1, p, y, h => by
    change (nxt f g (bfs f g s i) i)[p]? = some y at h
    unfold nxt at h
    split at h
    · rename_i x hx
      have hxi := (List.getElem?_eq_some_iff.1 hx).1
      have hxd := bfs_dist i i x hx
      rcases addL_get h with h | ⟨hp, rfl⟩
      · rcases addL_get h with h | ⟨hp, rfl⟩
        · exact bfs_dist i p y h
        · have : RchK f g s (i + 1) (f x) := .inr ⟨x, hxd, .inl rfl⟩
          have := rchK_mono (p - (i + 1)) this
          rwa [show i + 1 + (p - (i + 1)) = p by omega] at this
      · have h1 : (bfs f g s i).length ≤ (addL (bfs f g s i) (f x)).length := (addL_pre (xs := bfs f g s i) (x := f x)).length_le
        have : RchK f g s (i + 1) (g x) := .inr ⟨x, hxd, .inr rfl⟩
        have := rchK_mono (p - (i + 1)) this
        rwa [show i + 1 + (p - (i + 1)) = p by omega] at this
    · exact bfs_dist i p y h
theorem bfs_rch {i y : Nat} (h : y ∈ bfs f g s i) : Rch f g s y := by
  obtain ⟨p, hp⟩ := List.getElem?_of_mem h
  exact rchK_rch (bfs_dist i p y hp)
theorem bfs_iff {k : Nat} (h : (bfs f g s k).length ≤ k) {y : Nat} : y ∈ bfs f g s k ↔ Rch f g s y := ⟨bfs_rch, bfs_all h⟩
theorem Rch.trans {y z : Nat} (a : Rch f g s y) (b : Rch f g y z) : Rch f g s z := by
  induction b with
  | refl => exact a
  | f _ ih => exact .f ih
  | g _ ih => exact .g ih
theorem Rch.itf {k y : Nat} (h : Rch f g s y) : Rch f g s (it f k y) := by
  induction k with
  | zero => exact h
  | succ k ih => exact .f ih
theorem Rch.itg {k y : Nat} (h : Rch f g s y) : Rch f g s (it g k y) := by
  induction k with
  | zero => exact h
  | succ k ih => exact .g ih
theorem rch_lt {n : Nat} {f' g' : Nat → Nat} (pf : IsP n f f') (pg : IsP n g g') (hs : s < n) {y : Nat} (h : Rch f g s y) : y < n := by
  induction h with
  | refl => exact hs
  | f _ ih => exact pf.lt _ ih
  | g _ ih => exact pg.lt _ ih
theorem Rch.symm {n : Nat} {f' g' : Nat → Nat} (pf : IsP n f f') (pg : IsP n g g') (hs : s < n) {y : Nat} (h : Rch f g s y) : Rch f g y s := by
  induction h with
  | refl => exact .refl
  | @f z hz ih =>
    have hzn := rch_lt pf pg hs hz
    obtain ⟨k, hk⟩ := InC.symm pf hzn (⟨1, rfl⟩ : InC f z (f z))
    exact (show Rch f g (f z) z by have := Rch.itf (g := g) (k := k) (.refl : Rch f g (f z) (f z)); rwa [hk] at this).trans ih
  | @g z hz ih =>
    have hzn := rch_lt pf pg hs hz
    obtain ⟨k, hk⟩ := InC.symm pg hzn (⟨1, rfl⟩ : InC g z (g z))
    exact (show Rch f g (g z) z by have := Rch.itg (f := f) (k := k) (.refl : Rch f g (g z) (g z)); rwa [hk] at this).trans ih
end
/-- connected -/
def Conn (n : Nat) (f g : Nat → Nat) : Prop := ∀ y, y < n → Rch f g 0 y
theorem conn_len {n : Nat} {f f' g g' : Nat → Nat} (pf : IsP n f f') (pg : IsP n g g') (h0 : 0 < n) {k : Nat} (h : (bfs f g 0 k).length ≤ k) : (bfs f g 0 k).length = n ↔ Conn n f g := by
  have hle := bfs_len pf pg h0 k
  constructor
  · intro e y hy
    rw [← bfs_iff h]
    refine Classical.byContradiction fun hc => ?_
    have := len_le_of (List.nodup_cons.2 ⟨hc, bfs_nodup k⟩) (m := List.range n) fun z hz => by
      rcases List.mem_cons.1 hz with rfl | hz
      · exact List.mem_range.2 hy
      · exact List.mem_range.2 (bfs_lt pf pg h0 k z hz)
    simp only [List.length_cons, List.length_range] at this
    omega
  · intro hc
    have := len_le_of (l := List.range n) (m := bfs f g 0 k) (by unfold List.Nodup; exact List.pairwise_lt_range.imp fun h e => by omega) fun y hy => (bfs_iff h).2 (hc y (List.mem_range.1 hy))
    rw [List.length_range] at this
    omega
end Go.PI
