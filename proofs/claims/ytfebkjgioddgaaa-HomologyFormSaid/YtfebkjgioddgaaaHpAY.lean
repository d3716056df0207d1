/- Own work of the verifier: HoD HoE HoF HoG. -/
import Derived.Test.YtfebkjgioddgaaaHpAX
set_option linter.all false
set_option exponentiation.threshold 3000
set_option linter.deprecated false
/- PERMUTATIONS: what the reference makes of them; cycles. -/
open Go.Proofs
namespace Go.PI
open IM
set_option maxRecDepth 10000
set_option maxHeartbeats 4000000
variable (S : FuncId → Option (List AV → Heap → Option (AV × Heap)))
/-- the first x of xs was not before i -/
def NotB (xs : List Int) (x : Int) (i : Nat) : Prop := ∀ j, j < i → xs[j]? ≠ some x
theorem notB_next {xs : List Int} {x e : Int} {i : Nat} (h : NotB xs x i) (he : xs[i]? = some e) (hne : e ≠ x) : NotB xs x (i + 1) := fun j hj => by
  by_cases hji : j = i
  · subst hji; rw [he]; intro h2; cases h2; exact hne rfl
  · exact h j (by omega)
theorem notB_end {xs : List Int} {x : Int} {i : Nat} (h : NotB xs x i) (hi : xs.length ≤ i) : x ∉ xs := fun hm => by
  obtain ⟨j, hj⟩ := List.getElem?_of_mem hm
  have := (List.getElem?_eq_some_iff.1 hj).1
  exact h j (by omega) hj
/-- the place of x in xs -/
def idx (xs : List Int) (x : Int) : Int := if x ∈ xs then (xs.idxOf x : Nat) else -1
theorem idx_at {xs : List Int} {x : Int} {i : Nat} (h : NotB xs x i) (he : xs[i]? = some x) : idx xs x = i := by
  have hm := List.mem_of_getElem? he
  have hl : xs.idxOf x < xs.length := List.idxOf_lt_length_of_mem hm
  have h1 : xs[xs.idxOf x]? = some x := by rw [List.getElem?_eq_getElem hl, List.getElem_idxOf]
  have h2 : ¬ xs.idxOf x < i := fun hlt => h _ hlt h1
  have h3 : xs.idxOf x ≤ i := by
    have hi := (List.getElem?_eq_some_iff.1 he)
    refine Nat.le_of_not_lt fun hlt => ?_
    have := List.not_of_lt_findIdx hlt
    rw [hi.2] at this
    simp at this
  unfold idx
  rw [if_pos hm]
  omega
theorem fn84 : ctx.fn 84 = some c84 := by kernel_rfl
theorem at_ct (hS : OldO S) {xs : List Int} {x : Int} (hl : xs.length ≤ 1000000) : Ct (ctx.plus S) 84 [pIs xs, pn x] 0 fun r => r = pn (idx xs x) := by
  refine ct_of (hS 84 (by decide)) fn84 ?_
  refine ⟨fun m s => ∃ (i : Nat) (T : List PV), s = ⟨T, [], 0⟩ ∧ Gt T 19 [(0, pIs xs), (1, pn x), (5, pn i)] ∧ m = xs.length - i ∧ i ≤ xs.length ∧ Hid (NotB xs x i), ⟨_, ci ⟨0, _, rfl, ⟨rfl, rfl, rfl, rfl, trivial⟩, rfl, Nat.zero_le _, ⟨fun j hj => by omega⟩⟩⟩, ?_⟩
  rintro _ s ⟨i, T, rfl, hT, rfl, hi, hn⟩
  obtain ⟨J, rfl⟩ := gt_open hT
  clear hT
  refine ⟨fun hlt => ?_, fun hge => ?_⟩
  · obtain ⟨e, he⟩ := xs_get (xs := xs) (i := i) (by omega)
    refine ⟨⟨⟨by omega, by omega⟩, len_map_le (by omega)⟩, ?_⟩
    refine ⟨_, ld (at_map he) (by show _ * 1 = i; omega), ?_⟩
    refine ⟨fun heq => ?_, fun hne => ?_⟩
    · exact endq rfl (by rw [idx_at hn.h (by rw [he]; congr 1)]; rfl)
    · refine ⟨⟨by omega, by omega⟩, ?_⟩
      exact ⟨_, by omega, ci ⟨i + 1, _, rfl, ⟨rfl, rfl, rfl, rfl, trivial⟩, rfl, by omega, ⟨notB_next hn.h he hne⟩⟩⟩
  · exact endq rfl (by unfold idx; rw [if_neg (notB_end hn.h (by omega))])
theorem idx_PL {n : Nat} {f g : Nat → Nat} (h : IsP n f g) {i : Nat} (hi : i < n) : idx (PL n f) i = g i := by
  refine idx_at (fun j hj e => ?_) (by rw [PL_get (h.glt i hi), h.fg i hi])
  have hg := h.glt i hi
  rw [PL_get (by omega)] at e
  have : f j = i := by simp only [Option.some.injEq] at e; omega
  have := h.gf j (by omega)
  rw [‹f j = i›] at this
  omega
theorem PL_succ {n : Nat} {f : Nat → Nat} : PL (n + 1) f = PL n f ++ [(f n : Int)] := by simp [PL, List.range_succ]
theorem fn48 : ctx.fn 48 = some c48 := by kernel_rfl
theorem rinverse_ct (hS : OldO S) {n : Nat} {f g : Nat → Nat} (h : IsP n f g) (hn : n ≤ 1000) : Ct (ctx.plus S) 48 [pIs (PL n f)] (2 * n) fun r => r = pIs (PL n g) := by
  have hl : (PL n f).length = n := PL_len
  refine ct_of (hS 48 (by decide)) fn48 ?_
  refine ⟨fun m s => ∃ (i : Nat) (v : PV) (σ : List StB) (T : List PV), s = ⟨T, σ, 2 * i⟩ ∧ Gt T 18 [(0, pIs (PL n f)), (3, v), (4, pn i)] ∧ m = n - i ∧ i ≤ n ∧ Hid (Gr pn 3 v σ (PL i g)), ⟨_, ci ⟨0, .nils, [], _, rfl, ⟨rfl, rfl, rfl, rfl, trivial⟩, rfl, Nat.zero_le _, ⟨.nil⟩⟩⟩, ?_⟩
  rintro _ s ⟨i, v, σ, T, rfl, hT, rfl, hi, hg⟩
  obtain ⟨J, rfl⟩ := gt_open hT
  clear hT
  refine ⟨fun hlt => ?_, fun hge => ?_⟩
  · refine callq rfl (at_ct S hS (by omega)) (by omega) ?_
    rintro _ rfl
    rw [idx_PL h (by omega)]
    refine ⟨by omega, part1 fzI ⟨[pn (g i)], rfl, ?_⟩⟩
    refine appG (f := pn) (e := 3) (y := (g i : Int)) hg.h.push push_cont rfl rfl rfl rfl (by kernel_rfl) rfl rfl (by rw [PL_len]; omega) (by omega) fun v' σ' hv' _ _ => ?_
    refine ⟨⟨by omega, by omega⟩, ?_⟩
    exact ⟨_, by omega, ci ⟨i + 1, v', σ', _, rfl, ⟨rfl, rfl, rfl, rfl, trivial⟩, rfl, by omega, ⟨PL_succ ▸ hv'⟩⟩⟩
  · have hin : i = n := by omega
    subst hin
    obtain ⟨σ', hf⟩ := hg.h.fz
    exact endf hf rfl
theorem fn105 : ctx.fn 105 = some c105 := by kernel_rfl
theorem after_ct (hS : OldO S) {n : Nat} {f g : Nat → Nat} (h : ∀ i, i < n → f i < n) (hn : n ≤ 1000) : Ct (ctx.plus S) 105 [pIs (PL n f), pIs (PL n g)] (2 * n) fun r => r = pIs (PL n fun i => g (f i)) := by
  have hl : (PL n f).length = n := PL_len
  have hl2 : (PL n g).length = n := PL_len
  refine ct_of (hS 105 (by decide)) fn105 ?_
  refine ⟨fun m s => ∃ (i : Nat) (v : PV) (σ : List StB) (T : List PV), s = ⟨T, σ, 2 * i⟩ ∧ Gt T 24 [(0, pIs (PL n f)), (1, pIs (PL n g)), (5, v), (6, pn i)] ∧ m = n - i ∧ i ≤ n ∧ Hid (Gr pn 3 v σ (PL i fun i => g (f i))), ⟨_, ci ⟨0, .nils, [], _, rfl, ⟨rfl, rfl, rfl, rfl, rfl, trivial⟩, rfl, Nat.zero_le _, ⟨.nil⟩⟩⟩, ?_⟩
  rintro _ s ⟨i, v, σ, T, rfl, hT, rfl, hi, hg⟩
  obtain ⟨J, rfl⟩ := gt_open hT
  clear hT
  refine ⟨fun hlt => ?_, fun hge => ?_⟩
  · have hfi := h i (by omega)
    refine ⟨⟨⟨by omega, by omega⟩, len_map_le (by omega)⟩, ?_⟩
    refine ⟨_, ld (at_map (PL_get (show i < n by omega))) (by show _ * 1 = i; omega), ?_⟩
    refine ⟨⟨⟨by omega, by omega⟩, len_map_le (by omega)⟩, ?_⟩
    refine ⟨_, ld (at_map (PL_get hfi)) (by show _ * 1 = f i; omega), ?_⟩
    refine ⟨by omega, part1 fzI ⟨[pn (g (f i))], rfl, ?_⟩⟩
    refine appG (f := pn) (e := 3) (y := (g (f i) : Int)) hg.h.push push_cont rfl rfl rfl rfl (by kernel_rfl) rfl rfl (by rw [PL_len]; omega) (by omega) fun v' σ' hv' _ _ => ?_
    refine ⟨⟨by omega, by omega⟩, ?_⟩
    exact ⟨_, by omega, ci ⟨i + 1, v', σ', _, rfl, ⟨rfl, rfl, rfl, rfl, rfl, trivial⟩, rfl, by omega, ⟨PL_succ (f := fun i => g (f i)) ▸ hv'⟩⟩⟩
  · have hin : i = n := by omega
    subst hin
    obtain ⟨σ', hf⟩ := hg.h.fz
    exact endf hf rfl
/-- the commutator, and its inverse -/
def cmf (f f' g g' : Nat → Nat) (i : Nat) : Nat := g (f (g' (f' i)))
def cmi (f f' g g' : Nat → Nat) (i : Nat) : Nat := f (g (f' (g' i)))
theorem IsO.cm {r u : List Int} {n : Nat} {f f' g g' : Nat → Nat} (h : IsO r u n f f' g g') : IsP n (cmf f f' g g') (cmi f f' g g') :=
  ((h.pr.inv.comp h.pu.inv).comp h.pr).comp h.pu
theorem fn151 : ctx.fn 151 = some c151 := by kernel_rfl
theorem commutator_ct (hS : OldO S) {r u : List Int} {n : Nat} {f f' g g' : Nat → Nat} (h : IsO r u n f f' g g') : Ct (ctx.plus S) 151 [pO r u] 6 fun v => v = pIs (PL n (cmf f f' g g')) := by
  obtain ⟨h0, hn, rfl, rfl, pr, pu⟩ := h
  refine ct_of (hS 151 (by decide)) fn151 ?_
  refine ⟨by omega, ?_⟩
  refine ⟨by kernel_rfl, ?_⟩
  refine ⟨_, rfl, rfl, ?_⟩
  refine callq rfl (inverse_ct S hS pr (by omega)) (by omega) ?_
  rintro _ rfl
  refine ⟨_, rfl, rfl, ?_⟩
  refine callq rfl (inverse_ct S hS pu (by omega)) (by omega) ?_
  rintro _ rfl
  refine callq rfl (product_ct S hS pr.glt (by omega)) (by omega) ?_
  rintro _ rfl
  refine ⟨_, rfl, rfl, ?_⟩
  refine ⟨_, rfl, rfl, ?_⟩
  refine callq rfl (product_ct S hS pr.lt (by omega)) (by omega) ?_
  rintro _ rfl
  refine callq rfl (product_ct S hS (f := fun i => g' (f' i)) (fun i hi => pu.glt _ (pr.glt i hi)) (by omega)) (by omega) ?_
  rintro _ rfl
  exact endq rfl rfl
/-- the first k of a cycle -/
def cycTo (f : Nat → Nat) (x k : Nat) : List Int := (List.range k).map fun j => ((it f j x : Nat) : Int)
theorem cycTo_succ {f : Nat → Nat} {x k : Nat} : cycTo f x (k + 1) = cycTo f x k ++ [((it f k x : Nat) : Int)] := by simp [cycTo, List.range_succ]
theorem cycTo_len {f : Nat → Nat} {x k : Nat} : (cycTo f x k).length = k := by simp [cycTo]
theorem fn177 : ctx.fn 177 = some c177 := by kernel_rfl
theorem cycle_ct (hS : OldO S) {n x : Nat} {f g : Nat → Nat} (h : IsP n f g) (hn : n ≤ 1000) (hx : x < n) : Ct (ctx.plus S) 177 [pIs (PL n f), pn x] (2 * n) fun r => r = pIs (cyc f x) := by
  have hl : (PL n f).length = n := PL_len
  obtain ⟨o1, o2, o3, o4⟩ := ordr_spec h hx
  have hfx := h.lt x hx
  refine ct_of (hS 177 (by decide)) fn177 ?_
  refine ⟨by omega, part1 fzI ⟨[pn x], rfl, ?_⟩⟩
  refine ⟨⟨⟨by omega, by omega⟩, len_map_le (by omega)⟩, ?_⟩
  refine ⟨_, ld (at_map (PL_get hx)) (by show _ * 1 = x; omega), ?_⟩
  refine ⟨fun m s => ∃ (k b : Nat) (v : PV) (σ : List StB) (T : List PV), s = ⟨T, σ, b⟩ ∧ Gt T 25 [(0, pIs (PL n f)), (1, pn x), (5, v), (6, pn (it f k x : Nat))] ∧ m = ordr f x - k ∧ 1 ≤ k ∧ k ≤ ordr f x ∧ b + 1 ≤ 2 * k ∧ Hid (Gr pn 3 v σ (cycTo f x k)), ⟨_, ci ⟨1, 1, .own 0 0 1 1 1, [.live 3 [pn x]], _, rfl, ⟨rfl, rfl, rfl, rfl, rfl, trivial⟩, rfl, Nat.le_refl _, o1, Nat.le_refl _, ⟨.inr (.inl ⟨0, 3, rfl, rfl⟩)⟩⟩⟩, ?_⟩
  rintro _ s ⟨k, b, v, σ, T, rfl, hT, rfl, hk, hko, hb, hg⟩
  obtain ⟨J, rfl⟩ := gt_open hT
  clear hT
  have hit := it_lt h hx k
  refine ⟨fun hne => ?_, fun heq => ?_⟩
  · have hlt : k < ordr f x := by
      rcases Nat.lt_or_ge k (ordr f x) with a | a
      · exact a
      · have : k = ordr f x := by omega
        rw [this, o2] at hne
        exact absurd rfl hne
    refine ⟨by omega, part1 fzI ⟨[pn (it f k x : Nat)], rfl, ?_⟩⟩
    refine appG (f := pn) (e := 3) (y := ((it f k x : Nat) : Int)) hg.h.push push_cont rfl rfl rfl rfl (by kernel_rfl) rfl rfl (by rw [cycTo_len]; omega) (by omega) fun v' σ' hv' _ _ => ?_
    refine ⟨⟨⟨by omega, by omega⟩, len_map_le (by omega)⟩, ?_⟩
    refine ⟨_, ld (at_map (PL_get hit)) (by show _ * 1 = it f k x; omega), ?_⟩
    exact ⟨_, by omega, ci ⟨k + 1, _, v', σ', _, rfl, ⟨rfl, rfl, rfl, rfl, rfl, trivial⟩, rfl, by omega, by omega, by omega, ⟨cycTo_succ ▸ hv'⟩⟩⟩
  · have hko2 : k = ordr f x := by
      rcases Nat.lt_or_ge k (ordr f x) with a | a
      · exact absurd (by omega) (o4 k (by omega) a)
      · omega
    subst hko2
    obtain ⟨σ', hf⟩ := hg.h.fz
    exact endf hf rfl
end Go.PI
/- THE CYCLES of a permutation. -/
open Go.Proofs
namespace Go.PI
open IM
set_option maxRecDepth 10000
set_option maxHeartbeats 4000000
variable (S : FuncId → Option (List AV → Heap → Option (AV × Heap)))
/-- a slice of slices of integers -/
def pM (M : List (List Int)) : PV := .lst M.length (M.map pIs)
/-- those whose cycles have been listed -/
def Done (n : Nat) (f : Nat → Nat) (i : Nat) (fl : List Bool) : Prop := fl.length = n ∧ ∀ y : Nat, y < n → (fl[y]? = some true ↔ ∃ x, x < i ∧ InC f x y)
def DoneTo (n : Nat) (f : Nat → Nat) (i k : Nat) (fl : List Bool) : Prop := fl.length = n ∧ ∀ y : Nat, y < n → (fl[y]? = some true ↔ (∃ x, x < i ∧ InC f x y) ∨ (y : Int) ∈ cycTo f i k)
theorem not_lead {n : Nat} {f g : Nat → Nat} (h : IsP n f g) {i : Nat} (hi : i < n) : (∃ x, x < i ∧ InC f x i) ↔ ¬ lead f i := by
  constructor
  · rintro ⟨x, hx, hc⟩ hl
    have := hl x (hc.symm h (by omega))
    omega
  · intro hn
    have : ∃ y, InC f i y ∧ y < i := Classical.byContradiction fun hc => hn fun y hy => by
      rcases Nat.lt_or_ge y i with a | a
      · exact absurd ⟨y, hy, a⟩ hc
      · exact a
    obtain ⟨y, hy, hlt⟩ := this
    exact ⟨y, hlt, hy.symm h hi⟩
theorem cyc_to {f : Nat → Nat} {x : Nat} : cyc f x = cycTo f x (ordr f x) := rfl
theorem done_to {n : Nat} {f : Nat → Nat} {i : Nat} {fl : List Bool} (h : Done n f i fl) : DoneTo n f i 0 fl := ⟨h.1, fun y hy => by rw [h.2 y hy]; simp [cycTo]⟩
theorem doneTo_next {n : Nat} {f g : Nat → Nat} (hp : IsP n f g) {i k : Nat} (hi : i < n) {fl : List Bool} (h : DoneTo n f i k fl) : DoneTo n f i (k + 1) (fl.set (it f k i) true) := by
  refine ⟨by simp [h.1], fun y hy => ?_⟩
  have hl := it_lt hp hi k
  rw [cycTo_succ, List.mem_append]
  by_cases hk : y = it f k i
  · subst hk
    rw [List.getElem?_set_self (by rw [h.1]; omega)]
    simp
  · rw [List.getElem?_set_ne (Ne.symm hk), h.2 y hy]
    constructor
    · rintro (a | a)
      · exact .inl a
      · exact .inr (.inl a)
    · rintro (a | a | a)
      · exact .inl a
      · exact .inr a
      · have := List.mem_singleton.1 a
        omega
theorem doneTo_done {n : Nat} {f g : Nat → Nat} (hp : IsP n f g) {i : Nat} (hi : i < n) {fl : List Bool} (h : DoneTo n f i (ordr f i) fl) : Done n f (i + 1) fl := by
  refine ⟨h.1, fun y hy => ?_⟩
  rw [h.2 y hy, ← cyc_to, mem_cyc hp hi]
  constructor
  · rintro (⟨x, hx, hc⟩ | ⟨z, hz, hc⟩)
    · exact ⟨x, by omega, hc⟩
    · have : y = z := by omega
      subst this
      exact ⟨i, by omega, hc⟩
  · rintro ⟨x, hx, hc⟩
    by_cases hxi : x = i
    · subst hxi; exact .inr ⟨y, rfl, hc⟩
    · exact .inl ⟨x, by omega, hc⟩
theorem done_skip {n : Nat} {f g : Nat → Nat} (hp : IsP n f g) {i : Nat} (hi : i < n) {fl : List Bool} (h : Done n f i fl) (hn : ¬ lead f i) : Done n f (i + 1) fl := by
  refine ⟨h.1, fun y hy => ?_⟩
  rw [h.2 y hy]
  constructor
  · rintro ⟨x, hx, hc⟩; exact ⟨x, by omega, hc⟩
  · rintro ⟨x, hx, hc⟩
    by_cases hxi : x = i
    · subst hxi
      obtain ⟨z, hz, hc2⟩ := (not_lead hp hi).2 hn
      exact ⟨z, hz, hc2.trans hc⟩
    · exact ⟨x, by omega, hc⟩
theorem cycs_len {n i : Nat} {f : Nat → Nat} (h : i ≤ n) : (cycs i f).length ≤ n := by
  unfold cycs
  rw [List.length_map]
  exact Nat.le_trans (List.length_filter_le _ _) (by rw [List.length_range]; exact h)
theorem cycs_yes {i : Nat} {f : Nat → Nat} (h : lead f i) : cycs (i + 1) f = cycs i f ++ [cyc f i] := by rw [cycs_step, if_pos h]
theorem cycs_no {i : Nat} {f : Nat → Nat} (h : ¬ lead f i) : cycs (i + 1) f = cycs i f := by rw [cycs_step, if_neg h]
theorem cyc_at {f : Nat → Nat} {x k : Nat} (h : k < ordr f x) : (cyc f x)[k]? = some ((it f k x : Nat) : Int) := by simp [cyc, h]
theorem fn150 : ctx.fn 150 = some c150 := by kernel_rfl
theorem cycles_ct (hS : OldO S) {n : Nat} {f g : Nat → Nat} (h : IsP n f g) (hn : n ≤ 1000) : Ct (ctx.plus S) 150 [pIs (PL n f)] (1 + n * (2 * n + 2)) fun r => r = pM (cycs n f) := by
  obtain ⟨xs, hx⟩ : ∃ xs, xs = PL n f := ⟨_, rfl⟩
  have hl : xs.length = n := by rw [hx, PL_len]
  rw [← hx]
  refine ct_of (hS 150 (by decide)) fn150 ?_
  refine ⟨by omega, ⟨by omega, by omega, by omega⟩, _, flg_zero, ?_⟩
  have hd0 : Done n f 0 (List.replicate xs.length false) := ⟨by simp [hl], fun y hy => by
    rw [List.getElem?_replicate]
    constructor
    · intro h; split at h <;> simp at h
    · rintro ⟨x, hx, -⟩; omega⟩
  refine ⟨fun m s => ∃ (i b : Nat) (v : PV) (σ : List StB) (fl : List Bool) (T : List PV), s = ⟨T, σ, b⟩ ∧ Gt T 40 [(0, pIs xs), (3, v), (4, .own 0 0 xs.length xs.length 1), (13, pn xs.length), (14, pn i)] ∧ m = n - i ∧ i ≤ n ∧ b ≤ 1 + i * (2 * n + 2) ∧ Hid (σ[0]? = some (.live 4 (fl.map PV.bool)) ∧ blkOf v ≠ some 0 ∧ Gr pIs 22 v σ (cycs i f) ∧ Done n f i fl), ⟨_, ci ⟨0, 1, .nils, [.live 4 ((List.replicate xs.length false).map PV.bool)], _, _, rfl, ⟨rfl, rfl, rfl, rfl, rfl, rfl, trivial⟩, rfl, Nat.zero_le _, by omega, ⟨rfl, (fun h => by cases h), .nil, hd0⟩⟩⟩, ?_⟩
  rintro _ s ⟨i, b, v, σ, fl, T, rfl, hT, rfl, hi, hb, hh⟩
  obtain ⟨J, rfl⟩ := gt_open hT
  clear hT
  obtain ⟨h0, hbv, hg, hd⟩ := hh.h
  clear hh
  have hh : Hid (blkOf v ≠ some 0 ∧ Gr pIs 22 v σ (cycs i f) ∧ Done n f i fl) := ⟨hbv, hg, hd⟩
  have hfl : fl.length = n := hd.1
  have hmul : i < n → b + (2 * n + 2) ≤ 1 + (i + 1) * (2 * n + 2) := fun _ => by rw [Nat.add_mul]; omega
  have hmul2 : i < n → 1 + (i + 1) * (2 * n + 2) ≤ 1 + n * (2 * n + 2) := fun hlt => Nat.add_le_add_left (Nat.mul_le_mul_right _ hlt) 1
  clear hbv hg hd
  refine ⟨fun hlt => ?_, fun hge => ?_⟩
  · have hmul := hmul (by omega)
    have hmul2 := hmul2 (by omega)
    refine ⟨⟨by omega, by omega⟩, ?_⟩
    obtain ⟨q, hq⟩ : ∃ q, fl[i]? = some q := ⟨fl[i]'(by omega), List.getElem?_eq_getElem _⟩
    refine ⟨_, load_k rfl rfl (contOf_live h0) (at_map hq) (by show 0 + _ * 1 = i; omega), ?_⟩
    have hld : q = true ↔ ¬ lead f i := by
      rw [← not_lead h (by omega), ← hh.h.2.2.2 i (by omega), hq]
      simp
    cases q with
    | true =>
      have hnl := hld.1 rfl
      refine ⟨⟨by omega, by omega⟩, ?_⟩
      exact ⟨_, by omega, ci ⟨i + 1, b, v, σ, fl, _, rfl, ⟨rfl, rfl, rfl, rfl, rfl, rfl, trivial⟩, rfl, by omega, by omega, ⟨h0, hh.h.1, cycs_no hnl ▸ hh.h.2.1, done_skip h (by omega) hh.h.2.2 hnl⟩⟩⟩
    | false =>
      have hlead : lead f i := Classical.byContradiction fun hc => by have := hld.2 hc; cases this
      have hin : i < n := by omega
      obtain ⟨o1, o2, o3, o4⟩ := ordr_spec h hin
      rw [hx]
      refine callq rfl (cycle_ct S hS h (by omega) (x := i) hin) (by omega) ?_
      rintro _ rfl
      rw [← hx]
      have hcl : (cyc f i).length = ordr f i := cyc_len
      refine ⟨fun m s => ∃ (k : Nat) (σ' : List StB) (fl' : List Bool) (T : List PV), s = ⟨T, σ', b + 2 * n⟩ ∧ Gt T 40 [(0, pIs xs), (3, v), (4, .own 0 0 xs.length xs.length 1), (6, pIs (cyc f i)), (13, pn xs.length), (14, pn i), (24, pIs (cyc f i)), (25, pn (cyc f i).length), (26, pn k)] ∧ m = ordr f i - k ∧ k ≤ ordr f i ∧ Hid (σ'[0]? = some (.live 4 (fl'.map PV.bool)) ∧ Gr pIs 22 v σ' (cycs i f) ∧ DoneTo n f i k fl'), ⟨_, ci ⟨0, σ, fl, _, rfl, ⟨rfl, rfl, rfl, rfl, rfl, rfl, rfl, rfl, rfl, rfl, trivial⟩, rfl, Nat.zero_le _, ⟨h0, hh.h.2.1, done_to hh.h.2.2⟩⟩⟩, ?_⟩
      rintro _ s ⟨k, σ', fl', T, rfl, hT, rfl, hk, hk2⟩
      obtain ⟨J, rfl⟩ := gt_open hT
      clear hT
      have hfl' : fl'.length = n := hk2.h.2.2.1
      refine ⟨fun hlt2 => ?_, fun hge2 => ?_⟩
      · have hit := it_lt h hin k
        refine ⟨⟨⟨by omega, by omega⟩, len_map_le (by omega)⟩, ?_⟩
        refine ⟨_, ld (at_map (cyc_at (show k < ordr f i by omega))) (by show _ * 1 = k; omega), ?_⟩
        refine ⟨⟨by omega, by omega⟩, ?_⟩
        refine ⟨_, _, hk2.h.1, ⟨rfl, by rw [List.length_map]; show 0 + it f k i * 1 + 1 ≤ _; omega, rfl⟩, _, flg_put (j := it f k i) (by show 0 + it f k i * 1 = it f k i; omega) (by omega), _, rfl, ?_⟩
        refine ⟨⟨by omega, by omega⟩, ?_⟩
        have hs0 := (List.getElem?_eq_some_iff.1 hk2.h.1).1
        exact ⟨_, by omega, ci ⟨k + 1, _, _, _, rfl, ⟨rfl, rfl, rfl, rfl, rfl, rfl, rfl, rfl, rfl, rfl, trivial⟩, rfl, by omega, ⟨by rw [List.getElem?_set_self hs0], hk2.h.2.1.keep (fun j x hj hx => by
          rw [List.getElem?_set_ne (fun e => hh.h.1 (by rw [hj, ← e]))]; exact hx), doneTo_next h hin hk2.h.2.2⟩⟩⟩
      · have hko : k = ordr f i := by omega
        subst hko
        refine ⟨by omega, part1 fzL ⟨[pIs (cyc f i)], rfl, ?_⟩⟩
        have hcn := cycs_len (f := f) (show i ≤ n by omega)
        refine appG (f := pIs) (e := 22) (y := cyc f i) hk2.h.2.1.push push_cont rfl rfl rfl rfl (by kernel_rfl) rfl rfl (by omega) (by omega) fun v' σ2 hv' hkeep hb' => ?_
        refine ⟨⟨by omega, by omega⟩, ?_⟩
        have hlen : (σ' ++ [StB.live 22 [pIs (cyc f i)]]).length = σ'.length + 1 := by simp
        exact ⟨_, by omega, ci ⟨i + 1, _, v', σ2, fl', _, rfl, ⟨rfl, rfl, rfl, rfl, rfl, rfl, trivial⟩, rfl, by omega, by omega, ⟨hkeep 0 _ hh.h.1 (push_old hk2.h.1), (fun e => by rw [hb', hlen] at e; cases e), cycs_yes hlead ▸ hv', doneTo_done h hin hk2.h.2.2⟩⟩⟩
  · have hin : i = n := by omega
    subst hin
    obtain ⟨σ', hf⟩ := hh.h.2.1.fz
    exact endf hf rfl
end Go.PI
/- THE CYCLES of the reference; lists compared. -/
open Go.Proofs
namespace Go.PI
open IM
set_option maxRecDepth 10000
set_option maxHeartbeats 4000000
variable (S : FuncId → Option (List AV → Heap → Option (AV × Heap)))
/-- w is the least one of i and of the first k of its cycle -/
def LeastTo (f : Nat → Nat) (i k w : Nat) : Prop := InC f i w ∧ w ≤ i ∧ ∀ j, j < k → w ≤ it f j i
theorem leastTo_next {f : Nat → Nat} {i k w : Nat} (h : LeastTo f i k w) : LeastTo f i (k + 1) (min w (it f k i)) := by
  refine ⟨?_, by have := h.2.1; omega, fun j hj => ?_⟩
  · rcases Nat.le_total w (it f k i) with a | a
    · rw [Nat.min_eq_left a]; exact h.1
    · rw [Nat.min_eq_right a]; exact ⟨k, rfl⟩
  · by_cases hjk : j = k
    · subst hjk; omega
    · have := h.2.2 j (by omega); omega
theorem least_lead {n : Nat} {f g : Nat → Nat} (hp : IsP n f g) {i w : Nat} (hi : i < n) (h : LeastTo f i (ordr f i) w) : w = i ↔ lead f i := by
  constructor
  · rintro rfl y hy
    obtain ⟨k, hk, e⟩ := List.mem_map.1 ((mem_cyc hp hi).2 ⟨y, rfl, hy⟩)
    have := h.2.2 k (List.mem_range.1 hk)
    omega
  · intro hl
    have := hl w h.1
    have := h.2.1
    omega
theorem fn15 : ctx.fn 15 = some c15 := by kernel_rfl
def Eqs (xs ys : List Int) (i : Nat) : Prop := xs.take i = ys.take i
theorem eqs_next {xs ys : List Int} {i : Nat} {a b : Int} (h : Eqs xs ys i) (hx : xs[i]? = some a) (hy : ys[i]? = some b) (he : a = b) : Eqs xs ys (i + 1) := by
  unfold Eqs at *
  rw [take_snoc hx, take_snoc hy, h, he]
theorem ints_ct (hS : OldO S) {xs ys : List Int} (hx : xs.length ≤ 1000000) (hy : ys.length ≤ 1000000) : Ct (ctx.plus S) 15 [pIs xs, pIs ys] 0 fun r => r = .bool (decide (xs = ys)) := by
  refine ct_of (hS 15 (by decide)) fn15 ?_
  refine ⟨fun hne => ?_, fun heq => ?_⟩
  · exact endq rfl (by rw [decide_eq_false (fun h => hne (by rw [h]))])
  have hle : xs.length = ys.length := by omega
  refine ⟨fun m s => ∃ (i : Nat) (T : List PV), s = ⟨T, [], 0⟩ ∧ Gt T 26 [(0, pIs xs), (1, pIs ys), (5, pn i)] ∧ m = xs.length - i ∧ i ≤ xs.length ∧ Hid (Eqs xs ys i), ⟨_, ci ⟨0, _, rfl, ⟨rfl, rfl, rfl, rfl, trivial⟩, rfl, Nat.zero_le _, ⟨rfl⟩⟩⟩, ?_⟩
  rintro _ s ⟨i, T, rfl, hT, rfl, hi, hn⟩
  obtain ⟨J, rfl⟩ := gt_open hT
  clear hT
  refine ⟨fun hlt => ?_, fun hge => ?_⟩
  · obtain ⟨a, ha⟩ := xs_get (xs := xs) (i := i) (by omega)
    obtain ⟨b, hb⟩ := xs_get (xs := ys) (i := i) (by omega)
    refine ⟨by kernel_rfl, ?_⟩
    refine ⟨⟨⟨by omega, by omega⟩, len_map_le (by omega)⟩, ?_⟩
    refine ⟨_, ld (at_map ha) (by show _ * 1 = i; omega), rfl, ?_⟩
    refine ⟨⟨⟨by omega, by omega⟩, len_map_le (by omega)⟩, ?_⟩
    refine ⟨_, ld (at_map hb) (by show _ * 1 = i; omega), rfl, ?_⟩
    refine ⟨fun hne => ?_, fun heq => ?_⟩
    · exact endq rfl (by rw [decide_eq_false (fun h => by rw [h, hb] at ha; cases ha; exact hne rfl)])
    · refine ⟨⟨by omega, by omega⟩, ?_⟩
      exact ⟨_, by omega, ci ⟨i + 1, _, rfl, ⟨rfl, rfl, rfl, rfl, trivial⟩, rfl, by omega, ⟨eqs_next hn.h ha hb (by omega)⟩⟩⟩
  · exact endq rfl (by rw [decide_eq_true (by have := hn.h; unfold Eqs at this; rwa [List.take_of_length_le (by omega), List.take_of_length_le (by omega)] at this)])
theorem eqs_nextM {xs ys : List (List Int)} {i : Nat} {a b : List Int} (h : xs.take i = ys.take i) (hx : xs[i]? = some a) (hy : ys[i]? = some b) (he : a = b) : xs.take (i + 1) = ys.take (i + 1) := by
  rw [List.take_add_one, List.take_add_one, hx, hy, h, he]
theorem xs_getM {xs : List (List Int)} {i : Nat} (h : i < xs.length) : ∃ e, xs[i]? = some e := ⟨xs[i], List.getElem?_eq_getElem _⟩
end Go.PI
/- ANSWERS of the program; the law of vertices. -/
open Go.Proofs
namespace Go.PI
open IM
set_option maxRecDepth 10000
set_option maxHeartbeats 4000000
variable (S : FuncId → Option (List AV → Heap → Option (AV × Heap)))
def flO (L : List (List Int × List Int)) : List PV := L.flatMap fun p => [pIs p.1, pIs p.2]
/-- a slice of origamis -/
def pOs (L : List (List Int × List Int)) : PV := .lst L.length (flO L)
theorem flO_len : ∀ {L : List (List Int × List Int)}, (flO L).length = 2 * L.length
  | [] => rfl
  | p :: L => by
    have := flO_len (L := L)
    unfold flO at this ⊢
    rw [List.flatMap_cons, List.length_append, this]
    simp only [List.length_cons, List.length_nil]
    omega
theorem flO_at : ∀ {L : List (List Int × List Int)} {i q : Nat} {r u : List Int}, L[i]? = some (r, u) → q = 2 * i → ((flO L).drop q).take 2 = [pIs r, pIs u]
  | [], _, _, _, _, h, _ => by simp at h
  | p :: L, 0, _, r, u, h, hq => by
    simp at h
    subst h; subst hq
    rfl
  | p :: L, i + 1, q, r, u, h, hq => by
    have e : flO (p :: L) = pIs p.1 :: pIs p.2 :: flO L := rfl
    rw [e, hq, show 2 * (i + 1) = 2 * i + 1 + 1 by omega, List.drop_succ_cons, List.drop_succ_cons]
    exact flO_at (by simpa using h) rfl
open Classical in
/-- the error of the first one that has one -/
noncomputable def chkA : List (List Int × List Int) → Int
  | [] => 0
  | p :: L => if chkO p.1 p.2 ≠ 0 then chkO p.1 p.2 else chkA L
theorem chkA_bad : ∀ {L : List (List Int × List Int)} {i : Nat} {r u : List Int}, (∀ p ∈ L.take i, chkO p.1 p.2 = 0) → L[i]? = some (r, u) → chkO r u ≠ 0 → chkA L = chkO r u
  | [], _, _, _, _, h, _ => by simp at h
  | p :: L, 0, r, u, _, h, h2 => by
    simp at h
    subst h
    unfold chkA; rw [if_pos h2]
  | p :: L, i + 1, r, u, h0, h, h2 => by
    have := h0 p (by simp)
    unfold chkA
    rw [if_neg (fun e => e this)]
    exact chkA_bad (i := i) (fun q hq => h0 q (by simp [hq])) (by simpa using h) h2
theorem chkA_ok : ∀ {L : List (List Int × List Int)}, (∀ p ∈ L, chkO p.1 p.2 = 0) → chkA L = 0
  | [], _ => rfl
  | p :: L, h => by
    unfold chkA
    rw [if_neg (fun e => e (h p (by simp)))]
    exact chkA_ok fun q hq => h q (by simp [hq])
theorem chkA_one {r u : List Int} : chkA [(r, u)] = chkO r u := by
  unfold chkA
  by_cases h : chkO r u = 0
  · rw [if_neg (fun e => e h), h]; rfl
  · rw [if_pos h]
theorem fn125 : ctx.fn 125 = some c125 := by kernel_rfl
theorem checkAll_ct (hS : OldO S) {L : List (List Int × List Int)} (hL : L.length ≤ 10) (hl : ∀ p ∈ L, p.1.length ≤ 1000000 ∧ p.2.length ≤ 1000000) : Ct (ctx.plus S) 125 [pOs L] (6 * L.length) fun v => v = pn (chkA L) := by
  refine ct_of (hS 125 (by decide)) fn125 ?_
  refine ⟨fun m s => ∃ (i b : Nat) (σ : List StB) (T : List PV), s = ⟨T, σ, b⟩ ∧ Gt T 18 [(6, pOs L), (7, pn L.length), (8, pn i)] ∧ m = L.length - i ∧ i ≤ L.length ∧ b ≤ 6 * i ∧ Hid (∀ p ∈ L.take i, chkO p.1 p.2 = 0), ⟨_, ci ⟨0, 0, [], _, rfl, ⟨rfl, rfl, rfl, rfl, trivial⟩, rfl, Nat.zero_le _, Nat.le_refl _, ⟨fun p hp => by simp at hp⟩⟩⟩, ?_⟩
  rintro _ s ⟨i, b, σ, T, rfl, hT, rfl, hi, hb, hz⟩
  obtain ⟨J, rfl⟩ := gt_open hT
  clear hT
  refine ⟨fun hlt => ?_, fun hge => ?_⟩
  · obtain ⟨⟨r, u⟩, he⟩ : ∃ p, L[i]? = some p := ⟨L[i]'(by omega), List.getElem?_eq_getElem _⟩
    obtain ⟨l1, l2⟩ := hl _ (List.mem_of_getElem? he)
    have hfl : (flO L).length = 2 * L.length := flO_len
    refine ⟨⟨⟨by omega, by omega⟩, by rw [hfl]; show i * 2 ≤ _; omega⟩, ?_⟩
    have hat : ∀ q, q = 2 * i → partP t24 ((flO L).drop q) 0 = some (pO r u) := fun q hq => by
      show (if 0 + 2 ≤ ((flO L).drop q).length then some (PV.agg ((((flO L).drop q).drop 0).take 2)) else none) = _
      rw [if_pos (by rw [List.length_drop, hfl]; omega), List.drop_zero, flO_at he hq]
      rfl
    refine ⟨_, hat _ (by show _ * 2 = _; omega), ?_⟩
    refine ⟨by omega, ?_⟩
    refine ⟨_, _, push_get, ⟨rfl, by decide, rfl⟩, _, rfl, _, push_set, ?_⟩
    refine ⟨_, (show ploadE _ _ 24 (.optr σ.length 0) = some (pO r u) by unfold ploadE; rw [show (ctx.plus S).ty 24 = some t24 from rfl]; simp only [push_cont]; rfl), ?_⟩
    refine callq rfl (check_ct S hS l1 l2) (by omega) ?_
    rintro _ rfl
    refine ⟨fun h0 => ?_, fun h0 => ?_⟩
    · exact endq rfl (by rw [chkA_bad hz.h he h0])
    · refine ⟨⟨by omega, by omega⟩, ?_⟩
      exact ⟨_, by omega, ci ⟨i + 1, _, _, _, rfl, ⟨rfl, rfl, rfl, rfl, trivial⟩, rfl, by omega, by omega, ⟨fun p hp => by
        rw [List.take_add_one, he] at hp
        rcases List.mem_append.1 hp with hp | hp
        · exact hz.h p hp
        · simp at hp; subst hp; exact h0⟩⟩⟩
  · exact endq rfl (by rw [chkA_ok]; have := hz.h; rwa [List.take_of_length_le (by omega)] at this)
theorem fn124 : ctx.fn 124 = some c124 := by kernel_rfl
theorem answer62_ct (hS : OldO S) {r u : List Int} {chk dc g d : Nat} {e : Int} {Q : PV → Prop} (hc : Ct (ctx.plus S) chk [pOs [(r, u)]] dc fun v => v = pn e) (hq : ∀ v, Q v → cloA v = true) (hg : e = 0 → Ct (ctx.plus S) g [pO r u] d Q) :
    Ct (ctx.plus S) 124 [pO r u, .fn chk, .fn g] (2 + dc + d) fun v => (e ≠ 0 ∧ v = .tup [.lst 0 [], pn e]) ∨ (e = 0 ∧ ∃ w, Q w ∧ v = .tup [w, pn 0]) := by
  refine ct_of (hS 124 (by decide)) fn124 ?_
  refine ⟨by omega, ?_⟩
  refine ⟨_, rfl, ?_⟩
  refine ⟨by omega, partc rfl ⟨_, rfl, ?_⟩⟩
  refine cal1 (fz_own (ty := 24) rfl (Nat.le_refl 2) (Nat.le_refl _) rfl) hc (by omega) ?_
  rintro _ rfl
  refine ⟨fun h0 => ?_, fun h0 => ?_⟩
  · exact ⟨⟨[], .inl ⟨h0, rfl⟩⟩⟩
  · refine ⟨_, rfl, ?_⟩
    refine callq rfl (hg h0) (by omega) ?_
    intro w hw
    exact endsq (by simp only [cloAs, hq w hw]; rfl) (.inr ⟨h0, w, hw, rfl⟩)
theorem check1_ct (hS : OldO S) {r u : List Int} (l1 : r.length ≤ 1000000) (l2 : u.length ≤ 1000000) : Ct (ctx.plus S) 125 [pOs [(r, u)]] 6 fun v => v = pn (chkO r u) := by
  have := checkAll_ct S hS (L := [(r, u)]) (by simp) (fun p hp => by rw [List.mem_singleton.1 hp]; exact ⟨l1, l2⟩)
  rw [chkA_one] at this
  exact this
theorem nodup_PL {n : Nat} {f g : Nat → Nat} (h : IsP n f g) : (PL n f).Nodup := by
  unfold PL List.Nodup
  rw [List.pairwise_map]
  refine List.pairwise_lt_range.imp_of_mem fun {a b} ha hb hab e => ?_
  have := h.inj (List.mem_range.1 ha) (List.mem_range.1 hb) (by omega)
  omega
theorem IsO.chk {r u : List Int} {n : Nat} {f f' g g' : Nat → Nat} (h : IsO r u n f f' g g') : chkO r u = 0 := by
  obtain ⟨h0, hn, rfl, rfl, pr, pu⟩ := h
  rw [chkOu (by simp only [PL_len]; omega) (by rw [PL_len]; omega) (chk0 (inR_PL pr) (nodup_PL pr)), chk0 (inR_PL pu) (nodup_PL pu)]
theorem IsO.l1 {r u : List Int} {n : Nat} {f f' g g' : Nat → Nat} (h : IsO r u n f f' g g') : r.length = n ∧ u.length = n := by rw [h.hr, h.hu]; exact ⟨PL_len, PL_len⟩
theorem fn126 : ctx.fn 126 = some c126 := by kernel_rfl
theorem vertices_ct (hS : OldO S) {r u : List Int} {n : Nat} {f f' g g' : Nat → Nat} (h : IsO r u n f f' g g') : Ct (ctx.plus S) 126 [pO r u] 10000 fun v => v = pM (cycs n (cmf f f' g g')) := by
  have hn := h.le
  have hm : n * (2 * n + 2) ≤ 60 * 122 := Nat.mul_le_mul hn (by omega)
  refine ct_of (hS 126 (by decide)) fn126 ?_
  refine ⟨by omega, ?_⟩
  refine ⟨_, rfl, ?_⟩
  refine callq rfl (commutator_ct S hS h) (by omega) ?_
  rintro _ rfl
  refine callq rfl (cycles_ct S hS h.cm (by omega)) (by omega) ?_
  rintro _ rfl
  exact endq rfl rfl
theorem fn85 : ctx.fn 85 = some c85 := by kernel_rfl
theorem pvertices_ct (hS : OldO S) {r u : List Int} {n : Nat} {f f' g g' : Nat → Nat} (h : IsO r u n f f' g g') : Ct (ctx.plus S) 85 [pO r u] 10100 fun v => v = .tup [pM (cycs n (cmf f f' g g')), pn 0] := by
  have hl := h.l1
  have hn := h.le
  refine ct_of (hS 85 (by decide)) fn85 ?_
  refine ⟨by omega, ?_⟩
  refine ⟨_, rfl, ?_⟩
  refine callq rfl (answer62_ct S hS (check1_ct S hS (by omega) (by omega)) (Q := fun v => v = pM (cycs n (cmf f f' g g'))) (fun v e => by rw [e]; rfl) (d := 10000) fun h0 => vertices_ct S hS h) (by omega) ?_
  rintro _ (⟨h0, rfl⟩ | ⟨h0, w, rfl, rfl⟩)
  · exact absurd h.chk h0
  · exact endsq rfl rfl
theorem pvertices_bad (hS : OldO S) {r u : List Int} (l1 : r.length ≤ 1000000) (l2 : u.length ≤ 1000000) (hb : chkO r u ≠ 0) : Ct (ctx.plus S) 85 [pO r u] 10100 fun v => v = .tup [.lst 0 [], pn (chkO r u)] := by
  refine ct_of (hS 85 (by decide)) fn85 ?_
  refine ⟨by omega, ?_⟩
  refine ⟨_, rfl, ?_⟩
  refine callq rfl (answer62_ct S hS (check1_ct S hS l1 l2) (Q := fun _ => False) (fun v e => e.elim) (d := 10000) fun h0 => absurd h0 hb) (by omega) ?_
  rintro _ (⟨h0, rfl⟩ | ⟨h0, w, hw, rfl⟩)
  · exact endsq rfl rfl
  · exact absurd h0 hb
theorem cycs_mem {n : Nat} {f g : Nat → Nat} (h : IsP n f g) : ∀ x ∈ cycs n f, x.length ≤ n := fun x hx => by
  unfold cycs at hx
  obtain ⟨i, hi, rfl⟩ := List.mem_map.1 hx
  have := List.mem_range.1 (List.mem_filter.1 hi).1
  rw [cyc_len]
  exact (ordr_spec h this).2.2.1
end Go.PI
