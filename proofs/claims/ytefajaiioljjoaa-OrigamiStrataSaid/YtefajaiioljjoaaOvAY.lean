/- Own work of the verifier: OgF OgG OgArg OgH OgI OgJ OgR OgS. -/
import Derived.Test.YtefajaiioljjoaaOvAX
import Derived.Test.YtefajaiioljjoaaOvAT
import Derived.Lib.SmallJoins
import Derived.ChangeSlices
set_option linter.all false
set_option exponentiation.threshold 3000
set_option linter.deprecated false
/- THE CYCLES of the reference; lists compared. -/
open Go.Proofs
namespace Go.PI
open IM
set_option maxRecDepth 10000
set_option maxHeartbeats 4000000
variable (S : FuncId → Option (List AV → Heap → Option (AV × Heap)))
def LeastTo (f : Nat → Nat) (i k w : Nat) : Prop := InC f i w ∧ w ≤ i ∧ ∀ j, j < k → w ≤ it f j i
theorem leastTo_next {f : Nat → Nat} {i k w : Nat} (h : LeastTo f i k w) : LeastTo f i (k + 1) (min w (it f k i)) := by
  refine ⟨?_, by have := h.2.1; omega, fun j hj => ?_⟩
  · rcases Nat.le_total w (it f k i) with a | a
    · rw [Nat.min_eq_left a]; exact h.1
    · rw [Nat.min_eq_right a]; exact ⟨k, rfl⟩
  · by_cases hjk : j = k
    · subst hjk; omega
    · have := h.2.2 j (by omega); omega
theorem least_lead {n : Nat} {f g : Nat → Nat} (hp : IsP n f g) {i w : Nat} (hi : i < n) (h : LeastTo f i (ordr f i) w) : w = i ↔ lead f i := by
  constructor
  · rintro rfl y hy
    obtain ⟨k, hk, e⟩ := List.mem_map.1 ((mem_cyc hp hi).2 ⟨y, rfl, hy⟩)
    have := h.2.2 k (List.mem_range.1 hk)
    omega
  · intro hl
    have := hl w h.1
    have := h.2.1
    omega
theorem fn26 : ctx.fn 26 = some c26 := by kernel_rfl
theorem rcycles_ct (hS : OldO S) {n : Nat} {f g : Nat → Nat} (h : IsP n f g) (hn : n ≤ 1000) : Ct (ctx.plus S) 26 [pIs (PL n f)] (n * (2 * n + 2)) fun r => r = pM (cycs n f) := by
  have hl : (PL n f).length = n := PL_len
  refine ct_of (hS 26 (by decide)) fn26 ?_
  refine ⟨fun m s => ∃ (i b : Nat) (v : PV) (σ : List StB) (T : List PV), s = ⟨T, σ, b⟩ ∧ Gt T 38 [(0, pIs (PL n f)), (3, v), (4, pn i)] ∧ m = n - i ∧ i ≤ n ∧ b ≤ i * (2 * n + 2) ∧ Hid (Gr pIs 22 v σ (cycs i f)), ⟨_, ci ⟨0, 0, .nils, [], _, rfl, ⟨rfl, rfl, rfl, rfl, trivial⟩, rfl, Nat.zero_le _, by omega, ⟨.nil⟩⟩⟩, ?_⟩
  rintro _ s ⟨i, b, v, σ, T, rfl, hT, rfl, hi, hb, hg⟩
  obtain ⟨J, rfl⟩ := gt_open hT
  clear hT
  have hmul : i < n → b + (2 * n + 2) ≤ (i + 1) * (2 * n + 2) := fun _ => by rw [Nat.add_mul]; omega
  have hmul2 : i < n → (i + 1) * (2 * n + 2) ≤ n * (2 * n + 2) := fun hlt => Nat.mul_le_mul_right _ hlt
  refine ⟨fun hlt => ?_, fun hge => ?_⟩
  · have hin : i < n := by omega
    have hmul := hmul hin
    have hmul2 := hmul2 hin
    obtain ⟨o1, o2, o3, o4⟩ := ordr_spec h hin
    have hcl : (cyc f i).length = ordr f i := cyc_len
    refine callq rfl (rcycle_ct S hS h (by omega) (x := i) hin) (by omega) ?_
    rintro _ rfl
    refine ⟨fun m s => ∃ (k w : Nat) (T : List PV), s = ⟨T, σ, b + 2 * n⟩ ∧ Gt T 38 [(0, pIs (PL n f)), (3, v), (4, pn i), (5, pIs (cyc f i)), (6, pn w), (7, pn k)] ∧ m = ordr f i - k ∧ k ≤ ordr f i ∧ Hid (LeastTo f i k w), ⟨_, ci ⟨0, i, _, rfl, ⟨rfl, rfl, rfl, rfl, rfl, rfl, rfl, trivial⟩, rfl, Nat.zero_le _, ⟨InC.refl _ _, Nat.le_refl _, fun j hj => by omega⟩⟩⟩, ?_⟩
    rintro _ s ⟨k, w, T, rfl, hT, rfl, hk, hw⟩
    obtain ⟨J, rfl⟩ := gt_open hT
    clear hT
    refine ⟨fun hlt2 => ?_, fun hge2 => ?_⟩
    · refine ⟨⟨⟨by omega, by omega⟩, len_map_le (by omega)⟩, ?_⟩
      refine ⟨_, ld (at_map (cyc_at (show k < ordr f i by omega))) (by show _ * 1 = k; omega), ?_⟩
      refine ⟨⟨by omega, by omega⟩, ?_⟩
      exact ⟨_, by omega, ci ⟨k + 1, min w (it f k i), _, rfl, ⟨rfl, rfl, rfl, rfl, rfl, by show pn _ = pn _; congr 1; omega, rfl, trivial⟩, rfl, by omega, ⟨leastTo_next hw.h⟩⟩⟩
    · have hko : k = ordr f i := by omega
      subst hko
      have hll := least_lead h hin hw.h
      refine ⟨fun heq => ?_, fun hne => ?_⟩
      · have hlead : lead f i := hll.1 (by omega)
        refine ⟨by omega, part1 fzL ⟨[pIs (cyc f i)], rfl, ?_⟩⟩
        have hcn := cycs_len (f := f) (show i ≤ n by omega)
        refine appG (f := pIs) (e := 22) (y := cyc f i) hg.h.push push_cont rfl rfl rfl rfl (by kernel_rfl) rfl rfl (by omega) (by omega) fun v' σ2 hv' _ _ => ?_
        refine ⟨⟨by omega, by omega⟩, ?_⟩
        exact ⟨_, by omega, ci ⟨i + 1, _, v', σ2, _, rfl, ⟨rfl, rfl, rfl, rfl, trivial⟩, rfl, by omega, by omega, ⟨cycs_yes hlead ▸ hv'⟩⟩⟩
      · have hlead : ¬ lead f i := fun hc => hne (by have := hll.2 hc; omega)
        refine ⟨⟨by omega, by omega⟩, ?_⟩
        exact ⟨_, by omega, ci ⟨i + 1, _, v, σ, _, rfl, ⟨rfl, rfl, rfl, rfl, trivial⟩, rfl, by omega, by omega, ⟨cycs_no hlead ▸ hg.h⟩⟩⟩
  · have hin : i = n := by omega
    subst hin
    obtain ⟨σ', hf⟩ := hg.h.fz
    exact endf hf rfl
theorem fn30 : ctx.fn 30 = some c30 := by kernel_rfl
def Eqs (xs ys : List Int) (i : Nat) : Prop := xs.take i = ys.take i
theorem eqs_next {xs ys : List Int} {i : Nat} {a b : Int} (h : Eqs xs ys i) (hx : xs[i]? = some a) (hy : ys[i]? = some b) (he : a = b) : Eqs xs ys (i + 1) := by
  unfold Eqs at *
  rw [take_snoc hx, take_snoc hy, h, he]
theorem ints_ct (hS : OldO S) {xs ys : List Int} (hx : xs.length ≤ 1000000) (hy : ys.length ≤ 1000000) : Ct (ctx.plus S) 30 [pIs xs, pIs ys] 0 fun r => r = .bool (decide (xs = ys)) := by
  refine ct_of (hS 30 (by decide)) fn30 ?_
  refine ⟨fun hne => ?_, fun heq => ?_⟩
  · exact endq rfl (by rw [decide_eq_false (fun h => hne (by rw [h]))])
  have hle : xs.length = ys.length := by omega
  refine ⟨fun m s => ∃ (i : Nat) (T : List PV), s = ⟨T, [], 0⟩ ∧ Gt T 26 [(0, pIs xs), (1, pIs ys), (5, pn i)] ∧ m = xs.length - i ∧ i ≤ xs.length ∧ Hid (Eqs xs ys i), ⟨_, ci ⟨0, _, rfl, ⟨rfl, rfl, rfl, rfl, trivial⟩, rfl, Nat.zero_le _, ⟨rfl⟩⟩⟩, ?_⟩
  rintro _ s ⟨i, T, rfl, hT, rfl, hi, hn⟩
  obtain ⟨J, rfl⟩ := gt_open hT
  clear hT
  refine ⟨fun hlt => ?_, fun hge => ?_⟩
  · obtain ⟨a, ha⟩ := xs_get (xs := xs) (i := i) (by omega)
    obtain ⟨b, hb⟩ := xs_get (xs := ys) (i := i) (by omega)
    refine ⟨by kernel_rfl, ?_⟩
    refine ⟨⟨⟨by omega, by omega⟩, len_map_le (by omega)⟩, ?_⟩
    refine ⟨_, ld (at_map ha) (by show _ * 1 = i; omega), rfl, ?_⟩
    refine ⟨⟨⟨by omega, by omega⟩, len_map_le (by omega)⟩, ?_⟩
    refine ⟨_, ld (at_map hb) (by show _ * 1 = i; omega), rfl, ?_⟩
    refine ⟨fun hne => ?_, fun heq => ?_⟩
    · exact endq rfl (by rw [decide_eq_false (fun h => by rw [h, hb] at ha; cases ha; exact hne rfl)])
    · refine ⟨⟨by omega, by omega⟩, ?_⟩
      exact ⟨_, by omega, ci ⟨i + 1, _, rfl, ⟨rfl, rfl, rfl, rfl, trivial⟩, rfl, by omega, ⟨eqs_next hn.h ha hb (by omega)⟩⟩⟩
  · exact endq rfl (by rw [decide_eq_true (by have := hn.h; unfold Eqs at this; rwa [List.take_of_length_le (by omega), List.take_of_length_le (by omega)] at this)])
theorem xs_getM {xs : List (List Int)} {i : Nat} (h : i < xs.length) : ∃ e, xs[i]? = some e := ⟨xs[i], List.getElem?_eq_getElem _⟩
end Go.PI
/- ANSWERS of the program; the law of vertices. -/
open Go.Proofs
namespace Go.PI
open IM
set_option maxRecDepth 10000
set_option maxHeartbeats 4000000
variable (S : FuncId → Option (List AV → Heap → Option (AV × Heap)))
def flO (L : List (List Int × List Int)) : List PV := L.flatMap fun p => [pIs p.1, pIs p.2]
def pOs (L : List (List Int × List Int)) : PV := .lst L.length (flO L)
theorem flO_len : ∀ {L : List (List Int × List Int)}, (flO L).length = 2 * L.length
  | [] => rfl
  | p :: L => by
    have := flO_len (L := L)
    unfold flO at this ⊢
    rw [List.flatMap_cons, List.length_append, this]
    simp only [List.length_cons, List.length_nil]
    omega
theorem flO_at : ∀ {L : List (List Int × List Int)} {i q : Nat} {r u : List Int}, L[i]? = some (r, u) → q = 2 * i → ((flO L).drop q).take 2 = [pIs r, pIs u]
  | [], _, _, _, _, h, _ => by simp at h
  | p :: L, 0, _, r, u, h, hq => by
    simp at h
    subst h; subst hq
    rfl
  | p :: L, i + 1, q, r, u, h, hq => by
    have e : flO (p :: L) = pIs p.1 :: pIs p.2 :: flO L := rfl
    rw [e, hq, show 2 * (i + 1) = 2 * i + 1 + 1 by omega, List.drop_succ_cons, List.drop_succ_cons]
    exact flO_at (by simpa using h) rfl
open Classical in
/-- the error of the first one that has one -/
noncomputable def chkA : List (List Int × List Int) → Int
  | [] => 0
  | p :: L => if chkO p.1 p.2 ≠ 0 then chkO p.1 p.2 else chkA L
theorem chkA_bad : ∀ {L : List (List Int × List Int)} {i : Nat} {r u : List Int}, (∀ p ∈ L.take i, chkO p.1 p.2 = 0) → L[i]? = some (r, u) → chkO r u ≠ 0 → chkA L = chkO r u
  | [], _, _, _, _, h, _ => by simp at h
  | p :: L, 0, r, u, _, h, h2 => by
    simp at h
    subst h
    unfold chkA; rw [if_pos h2]
  | p :: L, i + 1, r, u, h0, h, h2 => by
    have := h0 p (by simp)
    unfold chkA
    rw [if_neg (fun e => e this)]
    exact chkA_bad (i := i) (fun q hq => h0 q (by simp [hq])) (by simpa using h) h2
theorem chkA_ok : ∀ {L : List (List Int × List Int)}, (∀ p ∈ L, chkO p.1 p.2 = 0) → chkA L = 0
  | [], _ => rfl
  | p :: L, h => by
    unfold chkA
    rw [if_neg (fun e => e (h p (by simp)))]
    exact chkA_ok fun q hq => h q (by simp [hq])
theorem chkA_one {r u : List Int} : chkA [(r, u)] = chkO r u := by
  unfold chkA
  by_cases h : chkO r u = 0
  · rw [if_neg (fun e => e h), h]; rfl
  · rw [if_pos h]
theorem fn63 : ctx.fn 63 = some c63 := by kernel_rfl
theorem checkAll_ct (hS : OldO S) {L : List (List Int × List Int)} (hL : L.length ≤ 10) (hl : ∀ p ∈ L, p.1.length ≤ 1000000 ∧ p.2.length ≤ 1000000) : Ct (ctx.plus S) 63 [pOs L] (6 * L.length) fun v => v = pn (chkA L) := by
  refine ct_of (hS 63 (by decide)) fn63 ?_
  refine ⟨fun m s => ∃ (i b : Nat) (σ : List StB) (T : List PV), s = ⟨T, σ, b⟩ ∧ Gt T 18 [(6, pOs L), (7, pn L.length), (8, pn i)] ∧ m = L.length - i ∧ i ≤ L.length ∧ b ≤ 6 * i ∧ Hid (∀ p ∈ L.take i, chkO p.1 p.2 = 0), ⟨_, ci ⟨0, 0, [], _, rfl, ⟨rfl, rfl, rfl, rfl, trivial⟩, rfl, Nat.zero_le _, Nat.le_refl _, ⟨fun p hp => by simp at hp⟩⟩⟩, ?_⟩
  rintro _ s ⟨i, b, σ, T, rfl, hT, rfl, hi, hb, hz⟩
  obtain ⟨J, rfl⟩ := gt_open hT
  clear hT
  refine ⟨fun hlt => ?_, fun hge => ?_⟩
  · obtain ⟨⟨r, u⟩, he⟩ : ∃ p, L[i]? = some p := ⟨L[i]'(by omega), List.getElem?_eq_getElem _⟩
    obtain ⟨l1, l2⟩ := hl _ (List.mem_of_getElem? he)
    have hfl : (flO L).length = 2 * L.length := flO_len
    refine ⟨⟨⟨by omega, by omega⟩, by rw [hfl]; show i * 2 ≤ _; omega⟩, ?_⟩
    have hat : ∀ q, q = 2 * i → partP t24 ((flO L).drop q) 0 = some (pO r u) := fun q hq => by
      show (if 0 + 2 ≤ ((flO L).drop q).length then some (PV.agg ((((flO L).drop q).drop 0).take 2)) else none) = _
      rw [if_pos (by rw [List.length_drop, hfl]; omega), List.drop_zero, flO_at he hq]
      rfl
    refine ⟨_, hat _ (by show _ * 2 = _; omega), ?_⟩
    refine ⟨by omega, ?_⟩
    refine ⟨_, _, push_get, ⟨rfl, by decide, rfl⟩, _, rfl, _, push_set, ?_⟩
    refine ⟨_, (show ploadE _ _ 24 (.optr σ.length 0) = some (pO r u) by unfold ploadE; rw [show (ctx.plus S).ty 24 = some t24 from rfl]; simp only [push_cont]; rfl), ?_⟩
    refine callq rfl (check_ct S hS l1 l2) (by omega) ?_
    rintro _ rfl
    refine ⟨fun h0 => ?_, fun h0 => ?_⟩
    · exact endq rfl (by rw [chkA_bad hz.h he h0])
    · refine ⟨⟨by omega, by omega⟩, ?_⟩
      exact ⟨_, by omega, ci ⟨i + 1, _, _, _, rfl, ⟨rfl, rfl, rfl, rfl, trivial⟩, rfl, by omega, by omega, ⟨fun p hp => by
        rw [List.take_add_one, he] at hp
        rcases List.mem_append.1 hp with hp | hp
        · exact hz.h p hp
        · simp at hp; subst hp; exact h0⟩⟩⟩
  · exact endq rfl (by rw [chkA_ok]; have := hz.h; rwa [List.take_of_length_le (by omega)] at this)
theorem fn85 : ctx.fn 85 = some c85 := by kernel_rfl
theorem answer85_ct (hS : OldO S) {r u : List Int} {chk dc g d : Nat} {e : Int} {Q : PV → Prop} (hc : Ct (ctx.plus S) chk [pOs [(r, u)]] dc fun v => v = pn e) (hq : ∀ v, Q v → cloA v = true) (hg : e = 0 → Ct (ctx.plus S) g [pO r u] d Q) :
    Ct (ctx.plus S) 85 [pO r u, .fn chk, .fn g] (2 + dc + d) fun v => (e ≠ 0 ∧ v = .tup [.lst 0 [], pn e]) ∨ (e = 0 ∧ ∃ w, Q w ∧ v = .tup [w, pn 0]) := by
  refine ct_of (hS 85 (by decide)) fn85 ?_
  refine ⟨by omega, ?_⟩
  refine ⟨_, rfl, ?_⟩
  refine ⟨by omega, partc rfl ⟨_, rfl, ?_⟩⟩
  refine cal1 (fz_own (ty := 24) rfl (Nat.le_refl 2) (Nat.le_refl _) rfl) hc (by omega) ?_
  rintro _ rfl
  refine ⟨fun h0 => ?_, fun h0 => ?_⟩
  · exact ⟨⟨[], .inl ⟨h0, rfl⟩⟩⟩
  · refine ⟨_, rfl, ?_⟩
    refine callq rfl (hg h0) (by omega) ?_
    intro w hw
    exact endsq (by simp only [cloAs, hq w hw]; rfl) (.inr ⟨h0, w, hw, rfl⟩)
theorem check1_ct (hS : OldO S) {r u : List Int} (l1 : r.length ≤ 1000000) (l2 : u.length ≤ 1000000) : Ct (ctx.plus S) 63 [pOs [(r, u)]] 6 fun v => v = pn (chkO r u) := by
  have := checkAll_ct S hS (L := [(r, u)]) (by simp) (fun p hp => by rw [List.mem_singleton.1 hp]; exact ⟨l1, l2⟩)
  rw [chkA_one] at this
  exact this
theorem nodup_PL {n : Nat} {f g : Nat → Nat} (h : IsP n f g) : (PL n f).Nodup := by
  unfold PL List.Nodup
  rw [List.pairwise_map]
  refine List.pairwise_lt_range.imp_of_mem fun {a b} ha hb hab e => ?_
  have := h.inj (List.mem_range.1 ha) (List.mem_range.1 hb) (by omega)
  omega
theorem IsO.chk {r u : List Int} {n : Nat} {f f' g g' : Nat → Nat} (h : IsO r u n f f' g g') : chkO r u = 0 := by
  obtain ⟨h0, hn, rfl, rfl, pr, pu⟩ := h
  rw [chkOu (by simp only [PL_len]; omega) (by rw [PL_len]; omega) (chk0 (inR_PL pr) (nodup_PL pr)), chk0 (inR_PL pu) (nodup_PL pu)]
theorem IsO.l1 {r u : List Int} {n : Nat} {f f' g g' : Nat → Nat} (h : IsO r u n f f' g g') : r.length = n ∧ u.length = n := by rw [h.hr, h.hu]; exact ⟨PL_len, PL_len⟩
theorem fn87 : ctx.fn 87 = some c87 := by kernel_rfl
theorem vertices_ct (hS : OldO S) {r u : List Int} {n : Nat} {f f' g g' : Nat → Nat} (h : IsO r u n f f' g g') : Ct (ctx.plus S) 87 [pO r u] 10000 fun v => v = pM (cycs n (cmf f f' g g')) := by
  have hn := h.le
  have hm : n * (2 * n + 2) ≤ 60 * 122 := Nat.mul_le_mul hn (by omega)
  refine ct_of (hS 87 (by decide)) fn87 ?_
  refine ⟨by omega, ?_⟩
  refine ⟨_, rfl, ?_⟩
  refine callq rfl (commutator_ct S hS h) (by omega) ?_
  rintro _ rfl
  refine callq rfl (cycles_ct S hS h.cm (by omega)) (by omega) ?_
  rintro _ rfl
  exact endq rfl rfl
theorem fn45 : ctx.fn 45 = some c45 := by kernel_rfl
theorem rvertices_ct (hS : OldO S) {r u : List Int} {n : Nat} {f f' g g' : Nat → Nat} (h : IsO r u n f f' g g') : Ct (ctx.plus S) 45 [pO r u] 10000 fun v => v = pM (cycs n (cmf f f' g g')) := by
  have hn := h.le
  have hm : n * (2 * n + 2) ≤ 60 * 122 := Nat.mul_le_mul hn (by omega)
  refine ct_of (hS 45 (by decide)) fn45 ?_
  refine ⟨by omega, ?_⟩
  refine ⟨_, rfl, ?_⟩
  refine callq rfl (rcommutator_ct S hS h) (by omega) ?_
  rintro _ rfl
  refine callq rfl (rcycles_ct S hS h.cm (by omega)) (by omega) ?_
  rintro _ rfl
  exact endq rfl rfl
theorem cycs_mem {n : Nat} {f g : Nat → Nat} (h : IsP n f g) : ∀ x ∈ cycs n f, x.length ≤ n := fun x hx => by
  unfold cycs at hx
  obtain ⟨i, hi, rfl⟩ := List.mem_map.1 hx
  have := List.mem_range.1 (List.mem_filter.1 hi).1
  rw [cyc_len]
  exact (ordr_spec h this).2.2.1
end Go.PI
/- THE ARGUMENTS OF THE LAWS OF ORIGAMIS. -/
open Go.Proofs
namespace Go.PI
open Go.ChangeShapes Go.WideShapes Go.ChangeAt Go.RowKit
open IM
set_option maxRecDepth 100000
set_option maxHeartbeats 4000000
theorem imp_sliceF {W : World} {μ : M} {H : Heap} (h : Imp W μ H) (hn : H.n < lim) {A : Option Addr} {L C : Nat} {Z : List Int} (hLC : L ≤ C) (hZ : L ≤ Z.length) (h0 : A = none → C = 0)
    (hc : ∀ a, A = some a → ∀ c, c < L → W.cell? (a.add c) = some (.int .i64 (Z.getD c 0))) :
    ∃ μ' H' v', Imp W μ' H' ∧ M.le μ μ' ∧ (∀ B, B < H.n → H'.get B = H.get B) ∧ H.n ≤ H'.n ∧ H'.n ≤ H.n + 1 ∧ VR μ' v' (.slice A L C) ∧ Sl H' v' (Z.take L) := by
  have hlen : (Z.take L).length = L := by simp; omega
  cases A with
  | none =>
    have hC := h0 rfl
    obtain rfl : C = 0 := hC
    obtain rfl : L = 0 := by omega
    exact ⟨μ, H, .nils, h, M.le.refl _, fun _ _ => rfl, Nat.le_refl _, Nat.le_succ _, .nils, rfl⟩
  | some a =>
    by_cases hL : L = 0
    · subst hL
      exact ⟨μ, H, .sle, h, M.le.refl _, fun _ _ => rfl, Nat.le_refl _, Nat.le_succ _, .sle _ _, rfl⟩
    · have ha := cell_zero (hc a rfl 0 (by omega))
      have hc' : ∀ c, c < L → W.cell? (Addr.add ⟨a.block, a.off, none⟩ c) = some (.int .i64 (Z.getD c 0)) := fun c hcl => by rw [← ha]; exact hc a rfl c hcl
      obtain ⟨carr, ty, fz, hb, -⟩ := cell_row (hc' 0 (by omega))
      have hlt : a.block < W.heap.size := by
        rcases Nat.lt_or_ge a.block W.heap.size with h1 | h1
        · exact h1
        · rw [Array.getElem?_eq_none h1] at hb; cases hb
      have hp := fun b => Heap.get_push (H := H) (b := b) hn
      · have hcells : ∀ c, c < L → carr[a.off + c]? = some (.int .i64 (Z.getD c 0)) := fun c hcl => by
          obtain ⟨carr2, ty2, fz2, hb2, hv⟩ := cell_row (hc' c hcl)
          rw [hb] at hb2
          cases hb2
          exact hv
        have hsz : a.off + L ≤ carr.size := by
          have := hcells (L - 1) (by omega)
          have := (Array.getElem?_eq_some_iff.1 this).1
          omega
        obtain ⟨cs, hcs⟩ : ∃ cs, cs = (carr.toList.take a.off).map AV.raw ++ ints (Z.take L) := ⟨_, rfl⟩
        have hcl : cs.length = a.off + L := by rw [hcs, List.length_append, List.length_map, List.length_take, ints_length, hlen, Array.length_toList]; omega
        have hvs : ∀ ν : M, VRs ν cs (carr.toList.take cs.length) := fun ν => by
          rw [hcl, hcs]
          have e : carr.toList.take (a.off + L) = carr.toList.take a.off ++ (carr.toList.drop a.off).take L := by rw [List.take_add]
          rw [e]
          refine All2.append (anys ν _) ?_
          have e2 : (carr.toList.drop a.off).take L = (Z.take L).map (Value.int .i64) := by
            apply List.ext_getElem?
            intro i
            by_cases hi : i < L
            · rw [List.getElem?_take, if_pos hi, List.getElem?_drop, Array.getElem?_toList, hcells i hi, List.getElem?_map, List.getElem?_take, if_pos hi]
              rw [List.getD_eq_getElem?_getD, List.getElem?_eq_getElem (by omega)]
              simp
            · rw [List.getElem?_take, if_neg hi, List.getElem?_map, List.getElem?_take, if_neg hi]; rfl
          rw [e2]
          generalize Z.take L = xs
          induction xs with
          | nil => exact .nil
          | cons x xs ih => exact .cons (.int _ _) ih
        obtain ⟨h1, h2⟩ := h.push hn (bi := ⟨a.block, carr.size, 0⟩) (b := .cells false ty cs) rfl (fun _ => ⟨hlt, blk0 rfl ⟨carr, fz, hb, rfl, by omega, hvs _, fun e => by cases e⟩⟩)
        refine ⟨_, _, .sl H.n a.off L C, h1, h2, fun B hB => by rw [hp, if_neg (by omega)], Nat.le_succ _, Nat.le_refl _, ?_, ⟨hlen.symm, false, ty, cs, by rw [hp, if_pos rfl], by omega, ?_⟩⟩
        · rw [ha]
          exact VR.sl0 (M.set_self _ _ _)
        · rw [hcs, List.drop_append, List.drop_of_length_le (by simp; omega), List.length_map, List.length_take, Array.length_toList, Nat.min_eq_left (by omega), Nat.sub_self, List.drop_zero, List.nil_append, List.take_of_length_le (by rw [ints_length]; omega)]
def CpX (v : AV) : Prop :=
  match v with
  | .sl _ _ l c => l ≤ c
  | _ => True
theorem nc24 : Try.prog.cellsOf 24 = 2 := by kernel_rfl
theorem nc22 : Try.prog.cellsOf 22 = 1 := by kernel_rfl
theorem nc3' : Try.prog.cellsOf 3 = 1 := by kernel_rfl
theorem cp_ofX {μ : M} {v : AV} {A : Option Addr} {L C : Nat} (h : VR μ v (.slice A L C)) (hLC : L ≤ C) : CpX v := by
  cases h <;> first | exact hLC | trivial
theorem rel_ints {H : Heap} {W : Nat → Prop} : ∀ (xs : List Int), All2 (RelC H W) (xs.map pn) (ints xs)
  | [] => .nil
  | x :: xs => .cons (.int _ _) (rel_ints xs)
theorem rel_of_sl {H : Heap} {x : AV} {xs : List Int} (h : Sl H x xs) (hc : CpX x) : RelC H (fun _ => False) (pIs xs) x := by
  have hr : ∀ {cs : List AV} {o : Nat}, (cs.drop o).take xs.length = ints xs → All2 (RelC H fun _ => False) (xs.map pn) ((cs.drop o).take (xs.map pn).length) := fun h => by
    rw [List.length_map, h]
    exact rel_ints xs
  unfold Sl at h
  split at h
  · subst h; exact .lnil
  · subst h; exact .lsle
  · obtain ⟨rfl, rw, ty, cs, h1, h2, h3⟩ := h
    exact .sl (fun h => h) h1 (by rw [List.length_map]; exact h2) hc (hr h3)
  · obtain ⟨rfl, rfl, rw, ty, cs, h1, h2, h3⟩ := h
    exact .slu (fun h => h) h1 (by rw [List.length_map]; exact h2) ⟨by simp, fun _ => rfl⟩ (hr h3)
  · exact h.elim
theorem imp_intsF {H : Type} {enc : TypeId × Value → H} {W : World} {μ : M} {Hp : Heap} (h : Imp W μ Hp) (hn : Hp.n + 2 < lim) {fuel : Nat} {v : Value} {y : DataW H × List MemPlace}
    (h1 : DataW.trod enc Try.prog W 0 (fun _ => true) true fuel 22 [v] = some y) :
    ∃ (μ' : M) (H' : Heap) (b : AV) (xs : List Int), Imp W μ' H' ∧ M.le μ μ' ∧ (∀ B, B < Hp.n → H'.get B = Hp.get B) ∧ Hp.n ≤ H'.n ∧ H'.n ≤ Hp.n + 1 ∧ VR μ' b v ∧ Sl H' b xs ∧ CpX b := by
  have hm : maxLen = 9223372036854775807 := rfl
  rcases open_ints Try.underlying22 Try.underlying3 nc3' h1 with ⟨hcs, -⟩ | ⟨a, len, cap, zs, hcs, -, hl, hc, hz, -, hcell, hwf⟩
  · obtain rfl : v = .slice none 0 0 := by simpa using hcs
    exact ⟨μ, Hp, .nils, [], h, M.le.refl _, fun _ _ => rfl, Nat.le_refl _, by omega, .nils, rfl, trivial⟩
  · obtain rfl : v = .slice (some a) len cap := by simpa using hcs
    simp only [if_true] at hz
    obtain ⟨μ', H', v', g1, g2, g3, g4, g5, g6, g7⟩ := imp_sliceF (A := some a) (L := len) (C := cap) (Z := zs) h (by omega) hl (by omega) (fun e => by cases e) (fun a' ha' c hcl => by
      cases ha'
      exact hcell c (by omega))
    exact ⟨μ', H', v', _, g1, g2, g3, g4, g5, g6, g7, cp_ofX g6 hl⟩
theorem rows_struct {H : Type} {enc : TypeId × Value → H} {P : Program} {w : World} {base : Nat} {spare : Nat → Bool} {held : Bool} {t : TypeId} {f0 f1 : Field} {fuel : Nat} {cs : List Value} {x : DataW H × List MemPlace} (ht : P.underlying t = some (.struct #[f0, f1])) (h : DataW.trod enc P w base spare held fuel t cs = some x) :
    ∃ y0 y1 n, cs.length = P.cellsOf t ∧ DataW.trod enc P w base spare held n f0.type ((cs.drop f0.offset).take (P.cellsOf f0.type)) = some y0 ∧ DataW.trod enc P w base spare held n f1.type ((cs.drop f1.offset).take (P.cellsOf f1.type)) = some y1 := by
  obtain ⟨xs, n, _, rfl, hl, hlen, hf⟩ := DataW.trod_struct ht h
  match xs, hlen with
  | [y0, y1], _ => exact ⟨y0, y1, n, hl, by simpa using hf 0 f0 rfl, by simpa using hf 1 f1 rfl⟩
theorem rel_up {H H' : Heap} {p : PV} {a : AV} (h : RelC H (fun _ => False) p a) (k : ∀ A, A < H.n → H'.get A = H.get A) : RelC H' (fun _ => False) p a := h.mono (fun A hA _ => k A hA) (fun _ _ h => h)
theorem imp_orig {H : Type} {enc : TypeId × Value → H} {W : World} {μ : M} {Hp : Heap} (h : Imp W μ Hp) (hn : Hp.n + 6 < lim) {fuel : Nat} {cs : Array Value} {y : DataW H × List MemPlace}
    (h0 : DataW.trod enc Try.prog W 0 (fun _ => true) true fuel 24 cs.toList = some y) :
    ∃ (μ' : M) (H' : Heap) (a : AV) (xs ys : List Int), Imp W μ' H' ∧ M.le μ μ' ∧ (∀ B, B < Hp.n → H'.get B = Hp.get B) ∧ Hp.n ≤ H'.n ∧ H'.n ≤ Hp.n + 2 ∧ VR μ' a (.agg cs) ∧ RelC H' (fun _ => False) (pO xs ys) a := by
  obtain ⟨y0, y1, n, hl, t0, t1⟩ := rows_struct Try.underlying24 h0
  rw [nc24] at hl
  obtain ⟨v0, v1, hcs⟩ : ∃ v0 v1, cs.toList = [v0, v1] := by
    match h : cs.toList, hl with
    | [a, b], _ => exact ⟨a, b, rfl⟩
  rw [hcs] at t0 t1
  simp only [nc22, List.drop, List.take] at t0 t1
  obtain ⟨μ1, H1, a, xs, i1, le1, k1, n1, m1, va, sa, ca⟩ := imp_intsF h (by omega) t0
  obtain ⟨μ2, H2, b, ys, i2, le2, k2, n2, m2, vb, sb, cb⟩ := imp_intsF i1 (by omega) t1
  refine ⟨μ2, H2, .agg [a, b], xs, ys, i2, le1.trans le2, fun B hB => by rw [k2 B (by omega), k1 B hB], by omega, by omega, .agg (by rw [hcs]; exact .cons (va.mono le2) (.cons vb .nil)), ?_⟩
  exact .agg (.cons (rel_up (rel_of_sl sa ca) k2) (.cons (rel_of_sl sb cb) .nil))
theorem law_calls {W : World} {μ : M} {H : Heap} {f : FuncId} {c : FI} (hf : ctxA.fn f = some c) (i : Imp W μ H) {args : Array Value} {avs : List AV} {ps : List PV} {d : Nat} (hv : VRs μ avs args.toList) (hr : All2 (RelC H fun _ => False) ps avs) (hd : H.n + d < lim)
    (hct : Ct ctxA f ps d fun r => r = .bool true) : Calls Try.prog f args W fun e w' => e = .returned (.bool true) ∧ Below W.heap.size W w' := by
  have law : Cl ctxA f avs H fun r _ => r = .bool true := by
    refine (hct H (fun _ => False) avs (fun b h => h.elim) hr hd).mono ?_
    rintro r H' ⟨q, rfl, hq, -⟩
    cases hq
    rfl
  obtain ⟨k, r, H', hc, rfl⟩ := law
  have hC := ctxA_fine
  rcases callF_sim hC (sound hC k) hc (args := args) hv i.hr with ⟨u, w', hrun, -⟩ | ⟨-, hcalls⟩
  · exfalso
    obtain ⟨fn', f1, f2, f3, f4, f5⟩ := hC.fn f _ hf
    have f5' : ¬ fn'.name = "runtime.NumGoroutine" := by simpa using f5
    simp [callFunc, f1, f5', f4] at hrun
  · have hw : Calls Try.prog f args W fun e w' => ∃ u, e = .returned u ∧ EffR μ H W (.bool true) H' u w' := callsIn_wide.1 (hcalls Fence.wide 0 ⟨fun _ => trivial, rfl, rfl⟩)
    refine hw.mono ?_
    rintro e w' ⟨u, rfl, hE⟩
    refine ⟨?_, below_of i.no hE⟩
    obtain ⟨μ', hv, -⟩ := hE
    rw [hv.bool_inv]
theorem orig_calls {H : Type} {enc : TypeId × Value → H} {W : World} {f : FuncId} {c : FI} (hf : ctxA.fn f = some c) {d : Nat} (hd : d < 100000000000) (hct : ∀ r u, Ct ctxA f [pO r u] d fun v => v = .bool true) {fu : Nat} {cs : Array Value} {y : DataW H × List MemPlace}
    (h0 : DataW.trod enc Try.prog W 0 (fun _ => true) true fu 24 cs.toList = some y) : Calls Try.prog f #[.agg cs] W fun e w' => e = .returned (.bool true) ∧ Below W.heap.size W w' := by
  have hz : (⟨0, .nil⟩ : Heap).n = 0 := rfl
  have hlim : lim > 200000000000 := by unfold lim; omega
  obtain ⟨μ1, H1, a, xs, ys, i1, le1, k1, n1, m1, va, ra⟩ := imp_orig (imp0 W) (by omega) h0
  exact law_calls hf i1 (.cons va .nil) (.cons ra .nil) (by omega) (hct xs ys)
end Go.PI
/- COVERINGS: what is asked of a list, of the program and of the reference. -/
open Go.Proofs
namespace Go.PI
open IM
set_option maxRecDepth 10000
set_option maxHeartbeats 4000000
variable (S : FuncId → Option (List AV → Heap → Option (AV × Heap)))
theorem fn121 : ctx.fn 121 = some c121 := by kernel_rfl
theorem neighbours_ct (hS : OldO S) {r u : List Int} {n x : Nat} {f f' g g' : Nat → Nat} (h : IsO r u n f f' g g') (hx : x < n) : Ct (ctx.plus S) 121 [pO r u, pn x] 2 fun v => v = .agg [pn (f x), pn (g x)] := by
  obtain ⟨h0, hn, rfl, rfl, pr, pu⟩ := h
  have l1 : (PL n f).length = n := PL_len
  have l2 : (PL n g).length = n := PL_len
  refine ct_of (hS 121 (by decide)) fn121 ?_
  refine ⟨by omega, by omega, ?_⟩
  refine ⟨by kernel_rfl, ?_⟩
  refine ⟨_, rfl, rfl, ?_⟩
  refine ⟨⟨⟨by omega, by omega⟩, len_map_le (by omega)⟩, ?_⟩
  refine ⟨_, ld (at_map (PL_get hx)) (by show _ * 1 = x; omega), rfl, ?_⟩
  refine ⟨_, rfl, rfl, ?_⟩
  refine ⟨⟨⟨by omega, by omega⟩, len_map_le (by omega)⟩, ?_⟩
  refine ⟨_, ld (at_map (PL_get hx)) (by show _ * 1 = x; omega), rfl, ?_⟩
  refine partc rfl ⟨_, rfl, ?_⟩
  refine ⟨_, _, rfl, ⟨rfl, Nat.le_refl 2, rfl⟩, _, rfl, _, rfl, ?_⟩
  exact ⟨_, rfl, endq rfl rfl⟩
end Go.PI
/- COVERINGS: whether a list is one, of the program and of the reference. -/
open Go.Proofs
namespace Go.PI
open IM
set_option maxRecDepth 10000
set_option maxHeartbeats 4000000
variable (S : FuncId → Option (List AV → Heap → Option (AV × Heap)))
structure IsF (fs : List Int) (n m : Nat) (h : Nat → Nat) : Prop where
  eq : fs = PL n h
  lt : ∀ x, x < n → h x < m
end Go.PI
/- COVERINGS: the checks whole; the law of proofs. -/
open Go.Proofs
namespace Go.PI
open IM
set_option maxRecDepth 10000
set_option maxHeartbeats 4000000
variable (S : FuncId → Option (List AV → Heap → Option (AV × Heap)))
section
variable {r u r2 u2 fs : List Int} {same : Bool}
end
theorem fn35 : ctx.fn 35 = some c35 := by kernel_rfl
theorem size_ct (hS : OldO S) {r u : List Int} : Ct (ctx.plus S) 35 [pO r u] 1 fun v => v = pn r.length := by
  refine ct_of (hS 35 (by decide)) fn35 ?_
  refine ⟨by omega, ?_⟩
  refine ⟨_, rfl, ?_⟩
  exact endq rfl rfl
end Go.PI
/- NUMBERINGS of squares, in a store of our own. -/
open Go.Proofs
namespace Go.PI
open IM
set_option maxRecDepth 10000
set_option maxHeartbeats 4000000
variable (S : FuncId → Option (List AV → Heap → Option (AV × Heap)))
def pnn (i : Nat) : PV := pn (i : Int)
def Onum : Opn := ⟨fun t => Nat.beq t 116, fun t => Nat.beq t 116 || Nat.beq t 22, false⟩
structure Num (σ : List StB) (j m : Nat) (v : PV) (xs : List Nat) : Prop where
  liv : σ[j]? = some (.liv 116 [v, .omap m])
  gr : Gr pnn 3 v σ xs
  mp : ∃ es, σ[m]? = some (.mp .i64 es) ∧ ∀ y : Nat, pmapGet es y = if y ∈ xs then some (pnn (xs.idxOf y)) else none
  ne : xs ≠ []
  jv : blkOf v ≠ some j
  mv : blkOf v ≠ some m
  jm : m ≠ j
  lv : ∃ jv, blkOf v = some jv ∧ σ[jv]? = some (.live 3 (xs.map pnn))
structure NF (σ σ' : List StB) (j m : Nat) (v v' : PV) : Prop where
  len : σ.length ≤ σ'.length
  keep : ∀ (i : Nat) (b : StB), i ≠ j → i ≠ m → blkOf v ≠ some i → σ[i]? = some b → σ'[i]? = some b
  blk : ∀ i, i < σ.length → blkOf v ≠ some i → blkOf v' ≠ some i
theorem NF.refl (σ : List StB) (j m : Nat) (v : PV) : NF σ σ j m v v := ⟨Nat.le_refl _, fun _ _ _ _ _ h => h, fun _ _ h => h⟩
theorem NF.trans {σ σ' σ'' : List StB} {j m : Nat} {v v' v'' : PV} (a : NF σ σ' j m v v') (b : NF σ' σ'' j m v' v'') : NF σ σ'' j m v v'' :=
  ⟨Nat.le_trans a.len b.len, fun i x h1 h2 h3 h4 => b.keep i x h1 h2 (a.blk i (List.getElem?_eq_some_iff.1 h4).1 h3) (a.keep i x h1 h2 h3 h4), fun i hi h => b.blk i (Nat.lt_of_lt_of_le hi a.len) (a.blk i hi h)⟩
theorem Gr.shape {α : Type} {f : α → PV} {e : TypeId} {v : PV} {σ : List StB} {Xs : List α} (h : Gr f e v σ Xs) (hne : Xs ≠ []) : ∃ jv ty, contOf σ jv = some (ty, Xs.map f) ∧ (v = .own jv 0 Xs.length Xs.length 1 ∨ v = .ownu jv Xs.length 1) := by
  rcases h with ⟨-, h⟩ | ⟨j, ty, rfl, h⟩ | ⟨j, rfl, h⟩
  · exact absurd h hne
  · exact ⟨j, ty, h, .inl rfl⟩
  · exact ⟨j, e, contOf_live h, .inr rfl⟩
theorem Gr.cell {α : Type} {f : α → PV} {e : TypeId} {v : PV} {σ : List StB} {Xs : List α} (h : Gr f e v σ Xs) : v.pcells = [v] ∧ v.one = true := by
  rcases h with ⟨rfl, h⟩ | ⟨j, ty, rfl, h⟩ | ⟨j, rfl, h⟩ <;> exact ⟨rfl, rfl⟩
theorem get_set_map {es : List (Int × PV)} {n k : Int} {v : PV} : pmapGet (pmapSet es n v) k = if k = n then some v else pmapGet es k := by
  induction es with
  | nil =>
    unfold pmapSet pmapGet
    by_cases h : k = n
    · subst h; simp
    · rw [if_neg h]
      have : (n == k) = false := by simpa using fun e => h e.symm
      rw [this]
      rfl
  | cons e es ih =>
    obtain ⟨k0, x⟩ := e
    unfold pmapSet
    cases hb : k0 == n with
    | true =>
      have : k0 = n := by simpa using hb
      subst this
      show pmapGet ((k0, v) :: es) k = _
      unfold pmapGet
      by_cases h : k = k0
      · subst h; simp
      · have : (k0 == k) = false := by simpa using fun e => h e.symm
        rw [this, if_neg h]
    | false =>
      show pmapGet ((k0, x) :: pmapSet es n v) k = _
      unfold pmapGet
      cases hk : k0 == k with
      | true =>
        have : k0 = k := by simpa using hk
        subst this
        have hne : k0 ≠ n := by simpa using hb
        rw [if_neg hne]
      | false => exact ih
theorem idx_new {xs : List Nat} {x : Nat} (h : x ∉ xs) : (xs ++ [x]).idxOf x = xs.length := by
  rw [List.idxOf_append, if_neg h]; simp
theorem idx_old {xs : List Nat} {x y : Nat} (h : y ∈ xs) : (xs ++ [x]).idxOf y = xs.idxOf y := by rw [List.idxOf_append, if_pos h]
theorem fn106 : ctx.fn 106 = some c106 := by kernel_rfl
theorem numberingFrom_cm (hS : OldO S) {σ : List StB} {x : Nat} : Cm (ctx.plus S) 106 [pnn x] σ 3 fun r σ' => ∃ j m v, r = .optr j 0 ∧ Num σ' j m v [x] ∧ (∀ (i : Nat) (b : StB), σ[i]? = some b → σ'[i]? = some b) ∧ σ.length ≤ j ∧ σ.length ≤ m ∧ (∀ i, i < σ.length → blkOf v ≠ some i) := by
  refine cm_of Onum (hS 106 (by decide)) fn106 fun c k0 hc => ?_
  refine ⟨by omega, part1 fzI ⟨[pnn x], rfl, ?_⟩⟩
  refine ⟨by omega, ?_⟩
  refine ⟨[], _, ⟨rfl, push_get⟩, rfl, _, push_set, ?_⟩
  refine ⟨_, rfl, ?_⟩
  refine ⟨by omega, ?_⟩
  refine endm [] (by dsimp only; omega) ?_
  have l1 : (σ ++ [StB.live 3 [pnn x]]).length = σ.length + 1 := by simp
  have l2 : ∀ B, (σ ++ [StB.live 3 [pnn x]] ++ [B]).length = σ.length + 2 := fun B => by simp
  refine ⟨_, _, _, rfl, ⟨push_get, .inr (.inl ⟨σ.length, 3, rfl, ?_⟩), ⟨[((x : Int), pn 0)], push_old (by exact push_get), fun y => ?_⟩, (by simp), ?_, ?_, ?_, ⟨σ.length, rfl, push_old (push_old push_get)⟩⟩, fun i b hb => push_old (push_old (push_old hb)), ?_, ?_, fun i hi => ?_⟩
  · exact contOf_app (contOf_app push_cont)
  · unfold pmapGet
    by_cases h : x = y
    · subst h; simp [pnn]
    · have : ((x : Int) == (y : Int)) = false := by simp; omega
      rw [this, if_neg (by simp; exact fun e => h e.symm)]
      rfl
  · show some σ.length ≠ some _
    rw [l2]; intro e; have := Option.some.inj e; omega
  · show some σ.length ≠ some _
    rw [l1]; intro e; have := Option.some.inj e; omega
  · rw [l1, l2]; omega
  · rw [l2]; omega
  · rw [l1]; omega
  · show some σ.length ≠ some i
    intro e; have := Option.some.inj e; omega
theorem addL_in {xs : List Nat} {x : Nat} (h : x ∈ xs) : addL xs x = xs := by unfold addL; rw [if_pos h]
theorem addL_out {xs : List Nat} {x : Nat} (h : x ∉ xs) : addL xs x = xs ++ [x] := by unfold addL; rw [if_neg h]
theorem fn107 : ctx.fn 107 = some c107 := by kernel_rfl
theorem number_cm (hS : OldO S) {σ : List StB} {j m : Nat} {v : PV} {xs : List Nat} {x : Nat} (h : Num σ j m v xs) (hl : xs.length ≤ 1000) :
    Cm (ctx.plus S) 107 [.optr j 0, pnn x] σ 4 fun r σ' => ∃ v', r = pnn ((addL xs x).idxOf x) ∧ Num σ' j m v' (addL xs x) ∧ NF σ σ' j m v v' := by
  refine cm_of Onum (hS 107 (by decide)) fn107 fun c k0 hc => ?_
  obtain ⟨es, hes, hget⟩ := h.mp
  refine ⟨_, load_liv h.liv rfl rfl, ?_⟩
  refine ⟨es, ⟨rfl, hes⟩, fun w hw => ?_, fun hw => ?_⟩
  · have hx : x ∈ xs := Classical.byContradiction fun hc => by
      have e := (hget x).symm.trans hw
      rw [if_neg hc] at e; cases e
    have e := (hget x).symm.trans hw
    rw [if_pos hx] at e
    cases e
    exact endm [] (by dsimp only; omega) ⟨v, by rw [addL_in hx]; rfl, by rw [addL_in hx]; exact h, NF.refl _ _ _ _⟩
  · have hx : x ∉ xs := fun hc => by
      have e := (hget x).symm.trans hw
      rw [if_pos hc] at e; cases e
    have hjm : j ≠ m := fun e => h.jm e.symm
    have hjl := (List.getElem?_eq_some_iff.1 h.liv).1
    have hml := (List.getElem?_eq_some_iff.1 hes).1
    have h' := h
    obtain ⟨jv, ty, hcv, hv⟩ := h.gr.shape h.ne
    have key : ∀ (v' : PV) (σ' : List StB), Gr pnn 3 v' σ' (xs ++ [x]) → (∀ i b, blkOf v ≠ some i → (σ ++ [StB.live 3 [pnn x]])[i]? = some b → σ'[i]? = some b) → blkOf v' = some (σ ++ [StB.live 3 [pnn x]]).length → σ'[(σ ++ [StB.live 3 [pnn x]]).length]? = some (.live 3 ((xs ++ [x]).map pnn)) → 
        ∃ v2, pnn xs.length = pnn ((addL xs x).idxOf x) ∧ Num ((σ'.set j (.liv 116 [v', .omap m])).set m (.mp .i64 (pmapSet es x (pnn xs.length)))) j m v2 (addL xs x) ∧ NF σ ((σ'.set j (.liv 116 [v', .omap m])).set m (.mp .i64 (pmapSet es x (pnn xs.length)))) j m v v2 := by
      intro v' σ' hv' hkp hbv hlv
      have hb1 := hv'.blk hbv
      have hl1 : (σ ++ [StB.live 3 [pnn x]]).length = σ.length + 1 := by simp
      rw [hl1] at hbv hb1 hlv
      have hb2 : ∀ i, i ≤ σ.length → blkOf v' ≠ some i := fun i hi e => by
        rw [hbv] at e; have := Option.some.inj e; omega
      refine ⟨v', by rw [addL_out hx, idx_new hx], ⟨?_, ?_, ⟨pmapSet es x (pnn xs.length), ?_, fun y => ?_⟩, ?_, ?_, ?_, h.jm, ⟨σ.length + 1, hbv, by rw [List.getElem?_set_ne (by omega), List.getElem?_set_ne (by omega), addL_out hx]; exact hlv⟩⟩, ⟨?_, fun i b h1 h2 h3 h4 => ?_, fun i hi _ => hb2 i (by omega)⟩⟩
      · rw [List.getElem?_set_ne h.jm, List.getElem?_set_self (by omega)]
      · rw [addL_out hx]
        refine hv'.keep fun i b hi hb => ?_
        rw [hbv] at hi
        have := Option.some.inj hi
        rw [List.getElem?_set_ne (by omega), List.getElem?_set_ne (by omega)]
        exact hb
      · rw [List.getElem?_set_self (by rw [List.length_set]; omega)]
      · rw [get_set_map, addL_out hx]
        by_cases hy : (y : Int) = x
        · have : y = x := by omega
          subst this
          rw [if_pos rfl, if_pos (by simp), idx_new hx]
        · have hne : y ≠ x := by omega
          rw [if_neg hy, hget]
          by_cases hm : y ∈ xs
          · rw [if_pos hm, if_pos (by simp [hm]), idx_old hm]
          · rw [if_neg hm, if_neg (by simp [hm, hne])]
      · rw [addL_out hx]; simp
      · exact hb2 j (by omega)
      · exact hb2 m (by omega)
      · rw [List.length_set, List.length_set]; omega
      · rw [List.getElem?_set_ne (Ne.symm h2), List.getElem?_set_ne (Ne.symm h1)]
        exact hkp i b h3 (push_old h4)
    rcases hv with rfl | rfl
    all_goals
      refine ⟨_, load_liv h.liv rfl rfl, ?_⟩
      refine ⟨_, load_liv h.liv rfl rfl, ?_⟩
      refine ⟨by omega, part1 fzI ⟨[pnn x], rfl, ?_⟩⟩
      refine appGu (f := pnn) (e := 3) (y := x) h.gr.push push_cont rfl rfl rfl rfl (by kernel_rfl) rfl rfl (by omega) (by omega) fun σ' hlv hkp => ?_
      obtain ⟨v', hvd⟩ : ∃ v', PV.ownu (σ ++ [StB.live 3 [pnn x]]).length (xs ++ [x]).length 1 = v' := ⟨_, rfl⟩
      have hv' : Gr pnn 3 v' σ' (xs ++ [x]) := .inr (.inr ⟨_, hvd.symm, hlv⟩)
      have hbv' : blkOf v' = some (σ ++ [StB.live 3 [pnn x]]).length := by rw [← hvd]; rfl
      rw [hvd]
      have hpc := hv'.cell
      refine ⟨_, _, hkp j _ h.jv (push_old h.liv), ⟨by rw [hpc.1]; rfl, Nat.le_of_ble_eq_true rfl, by rw [hpc.1]; show (v'.one && true) = true; rw [hpc.2]; rfl⟩, [v', .omap m], by rw [hpc.1]; rfl, _, rfl, ?_⟩
      have hj' : j < σ'.length := (List.getElem?_eq_some_iff.1 (hkp j _ h.jv (push_old h.liv))).1
      refine ⟨_, load_liv (List.getElem?_set_self hj') rfl rfl, ?_⟩
      refine ⟨es, _, ⟨rfl, by rw [List.getElem?_set_ne hjm]; exact hkp m _ h.mv (push_old hes)⟩, rfl, _, rfl, ?_⟩
      exact endm [] (by dsimp only; omega) (key v' σ' hv' hkp hbv' hlv)
end Go.PI
/- NUMBERINGS: the squares around one. -/
open Go.Proofs
namespace Go.PI
open IM
set_option maxRecDepth 10000
set_option maxHeartbeats 4000000
variable (S : FuncId → Option (List AV → Heap → Option (AV × Heap)))
theorem Num.push {σ : List StB} {j m : Nat} {v : PV} {xs : List Nat} {b : StB} (h : Num σ j m v xs) : Num (σ ++ [b]) j m v xs := by
  obtain ⟨es, hes, hg⟩ := h.mp
  obtain ⟨jv, hj, hl⟩ := h.lv
  exact ⟨push_old h.liv, h.gr.push, ⟨es, push_old hes, hg⟩, h.ne, h.jv, h.mv, h.jm, ⟨jv, hj, push_old hl⟩⟩
theorem Num.keep {σ σ' : List StB} {j m : Nat} {v : PV} {xs : List Nat} (h : Num σ j m v xs) (k : ∀ i b, (i = j ∨ i = m ∨ blkOf v = some i) → σ[i]? = some b → σ'[i]? = some b) : Num σ' j m v xs := by
  obtain ⟨es, hes, hg⟩ := h.mp
  exact ⟨k j _ (.inl rfl) h.liv, h.gr.keep fun i b hi hb => k i b (.inr (.inr hi)) hb, ⟨es, k m _ (.inr (.inl rfl)) hes, hg⟩, h.ne, h.jv, h.mv, h.jm, h.lv.imp fun jv hj => ⟨hj.1, k jv _ (.inr (.inr hj.1)) hj.2⟩⟩
theorem Num.jl {σ : List StB} {j m : Nat} {v : PV} {xs : List Nat} (h : Num σ j m v xs) : j < σ.length := (List.getElem?_eq_some_iff.1 h.liv).1
theorem Num.ml {σ : List StB} {j m : Nat} {v : PV} {xs : List Nat} (h : Num σ j m v xs) : m < σ.length := by
  obtain ⟨es, hes, hg⟩ := h.mp
  exact (List.getElem?_eq_some_iff.1 hes).1
theorem NF.push {σ : List StB} {j m : Nat} {v : PV} {b : StB} : NF σ (σ ++ [b]) j m v v := ⟨by simp, fun i b _ _ _ h => push_old h, fun _ _ h => h⟩
theorem addL_idx {xs : List Nat} {x y : Nat} (h : y ∈ xs) : (addL xs x).idxOf y = xs.idxOf y := by
  unfold addL
  by_cases hx : x ∈ xs
  · rw [if_pos hx]
  · rw [if_neg hx, idx_old h]
theorem addL_self {xs : List Nat} {x : Nat} : x ∈ addL xs x := addL_mem.2 (.inr rfl)
theorem addL_len {xs : List Nat} {x : Nat} : (addL xs x).length ≤ xs.length + 1 := by
  unfold addL
  by_cases hx : x ∈ xs
  · rw [if_pos hx]; omega
  · rw [if_neg hx]; simp
theorem load_c {C : Ctx} {σ : List StB} {j o : Nat} {t t' : TypeId} {i : TI} {cs : List PV} {v : PV} (hc : contOf σ j = some (t', cs)) (hi : C.ty t = some i) (hv : partP i cs o = some v) : ploadE C σ t (.optr j o) = some v := by
  unfold ploadE
  rw [hi]
  simp only [hc]
  exact hv
theorem NF.set {σ σ' : List StB} {j m L : Nat} {v v' : PV} {b : StB} (h : NF σ σ' j m v v') (hL : σ.length ≤ L) : NF σ (σ'.set L b) j m v v' :=
  ⟨by rw [List.length_set]; exact h.len, fun i b h1 h2 h3 h4 => by
    have := (List.getElem?_eq_some_iff.1 h4).1
    rw [List.getElem?_set_ne (by omega)]; exact h.keep i b h1 h2 h3 h4, h.blk⟩
theorem Num.set {σ : List StB} {j m L : Nat} {v : PV} {xs : List Nat} {b : StB} (h : Num σ j m v xs) (h1 : L ≠ j) (h2 : L ≠ m) (h3 : blkOf v ≠ some L) : Num (σ.set L b) j m v xs :=
  h.keep fun i b hi hb => by
    rw [List.getElem?_set_ne (fun e => by subst e; rcases hi with h | h | h; exact h1 h; exact h2 h; exact h3 h)]; exact hb
theorem fn109 : ctx.fn 109 = some c109 := by kernel_rfl
theorem around_cm (hS : OldO S) {σ : List StB} {j m : Nat} {v : PV} {xs : List Nat} {r u : List Int} {n i x : Nat} {f f' g g' : Nat → Nat} (ho : IsO r u n f f' g g') (h : Num σ j m v xs) (hl : xs.length ≤ 900) (hi : xs[i]? = some x) (hx : x < n) :
    Cm (ctx.plus S) 109 [.optr j 0, pO r u, pn i] σ 20 fun w σ' => ∃ v', w = .agg [pnn ((addL (addL xs (f x)) (g x)).idxOf (f x)), pnn ((addL (addL xs (f x)) (g x)).idxOf (g x))] ∧ Num σ' j m v' (addL (addL xs (f x)) (g x)) ∧ NF σ σ' j m v v' := by
  refine cm_of Onum (hS 109 (by decide)) fn109 fun c k0 hc => ?_
  have hn := ho.le
  have hil := (List.getElem?_eq_some_iff.1 hi).1
  obtain ⟨jv, ty, hcv, hv⟩ := h.gr.shape h.ne
  have hjv : blkOf v = some jv := by rcases hv with rfl | rfl <;> rfl
  have hjvl := contOf_lt hcv
  have hjl := h.jl
  have hml := h.ml
  refine ⟨by omega, by omega, ?_⟩
  refine ⟨by omega, ?_⟩
  refine ⟨by kernel_rfl, ?_⟩
  refine ⟨_, load_c (contOf_app (contOf_app push_cont)) rfl rfl, rfl, ?_⟩
  have hliv := h.liv
  rcases hv with hv | hv
  all_goals
    rw [hv] at hliv
    refine ⟨_, load_liv (push_old (push_old (push_old hliv))) rfl rfl, ?_⟩
    refine ⟨rfl, ?_⟩
    refine ⟨⟨by omega, by omega⟩, ?_⟩
    refine ⟨_, load_k rfl rfl (contOf_app (contOf_app (contOf_app hcv))) (at_map hi) (by show 0 + _ * 1 = i; omega), rfl, ?_⟩
    refine callq rfl (neighbours_ct S hS ho hx) (by omega) ?_
    rintro _ rfl
    obtain ⟨a, ha⟩ : ∃ a : Nat, (addL (addL xs (f x)) (g x)).idxOf (f x) = a := ⟨_, rfl⟩
    obtain ⟨b, hb⟩ : ∃ b : Nat, (addL (addL xs (f x)) (g x)).idxOf (g x) = b := ⟨_, rfl⟩
    rw [ha, hb]
    have ha1 : (addL xs (f x)).idxOf (f x) = a := by rw [← ha, addL_idx addL_self]
    refine ⟨fun q s => ∃ (k k' L6 L7 : Nat) (v' : PV) (σ' : List StB) (T : List PV), s = ⟨T, σ', k'⟩ ∧ Gt T 30 [(0, .optr j 0), (6, .optr L6 0), (7, .optr L7 0), (18, .agg [pnn (f x), pnn (g x)]), (19, pn k)] ∧ q = 2 - k ∧ k ≤ 2 ∧ k' ≤ k0 + 6 + 5 * k ∧ Hid (σ.length ≤ L6 ∧ L6 < L7 ∧ L7 < σ'.length ∧ blkOf v' ≠ some L6 ∧ blkOf v' ≠ some L7 ∧ NF σ σ' j m v v' ∧ σ'[L6]? = some (.live 107 [pn 0, pn 0]) ∧
      ((k = 0 ∧ Num σ' j m v' xs ∧ σ'[L7]? = some (.live 107 [pn 0, pn 0])) ∨ (k = 1 ∧ Num σ' j m v' (addL xs (f x)) ∧ σ'[L7]? = some (.live 107 [pnn a, pn 0])) ∨ (k = 2 ∧ Num σ' j m v' (addL (addL xs (f x)) (g x)) ∧ σ'[L7]? = some (.live 107 [pnn a, pnn b])))), ⟨_, ci ⟨0, _, _, _, v, _, _, rfl, ⟨rfl, rfl, rfl, rfl, rfl, rfl, trivial⟩, rfl, Nat.zero_le _, by omega, ⟨?_, ?_, ?_, ?_, ?_, ?_, ?_, .inl ⟨rfl, h.push.push.push, push_get⟩⟩⟩⟩, ?_⟩
    · simp
    · simp
    · simp
    · rw [hjv]; simp; omega
    · rw [hjv]; simp; omega
    · exact NF.push.trans (NF.push.trans NF.push)
    · exact push_old push_get
    rintro _ s ⟨k, k', L6, L7, v', σ', T, rfl, hT, rfl, hk, hk', hh⟩
    obtain ⟨J, rfl⟩ := gt_open hT
    clear hT
    obtain ⟨c1, c2, c3, c4, c5, c6, c7, c8⟩ := hh.h
    clear hh
    refine ⟨fun hlt => ?_, fun hge => ?_⟩
    · rcases c8 with ⟨rfl, d1, d2⟩ | ⟨rfl, d1, d2⟩ | ⟨rfl, d1, d2⟩
      · refine ⟨⟨by omega, by omega⟩, _, rfl, ?_⟩
        refine callm (number_cm S hS (x := f x) d1 (by omega)) (by omega) ?_
        rintro _ σ2 ⟨v2, rfl, e1, e2⟩
        rw [ha1]
        have g6 := e2.keep L6 _ (by omega) (by omega) c4 c7
        have g7 := e2.keep L7 _ (by omega) (by omega) c5 d2
        have b7 := (List.getElem?_eq_some_iff.1 g7).1
        refine ⟨⟨by omega, by omega⟩, ?_⟩
        refine ⟨_, _, g7, ⟨rfl, Nat.le_of_ble_eq_true rfl, rfl⟩, _, rfl, _, rfl, ?_⟩
        refine ⟨⟨by omega, by omega⟩, ?_⟩
        exact ⟨_, by omega, ci ⟨1, _, L6, L7, v2, _, _, rfl, ⟨rfl, rfl, rfl, rfl, rfl, rfl, trivial⟩, rfl, by omega, by omega, ⟨c1, c2, by rw [List.length_set]; omega, e2.blk L6 (by omega) c4, e2.blk L7 (by omega) c5, (c6.trans e2).set (by omega), by rw [List.getElem?_set_ne (by omega)]; exact g6, .inr (.inl ⟨rfl, e1.set (by omega) (by omega) (e2.blk L7 (by omega) c5), List.getElem?_set_self (by omega)⟩)⟩⟩⟩
      · refine ⟨⟨by omega, by omega⟩, _, rfl, ?_⟩
        have l2 : (addL xs (f x)).length ≤ xs.length + 1 := addL_len
        refine callm (number_cm S hS (x := g x) d1 (by omega)) (by omega) ?_
        rintro _ σ2 ⟨v2, rfl, e1, e2⟩
        rw [hb]
        have g6 := e2.keep L6 _ (by omega) (by omega) c4 c7
        have g7 := e2.keep L7 _ (by omega) (by omega) c5 d2
        have b7 := (List.getElem?_eq_some_iff.1 g7).1
        refine ⟨⟨by omega, by omega⟩, ?_⟩
        refine ⟨_, _, g7, ⟨rfl, Nat.le_of_ble_eq_true rfl, rfl⟩, _, rfl, _, rfl, ?_⟩
        refine ⟨⟨by omega, by omega⟩, ?_⟩
        exact ⟨_, by omega, ci ⟨2, _, L6, L7, v2, _, _, rfl, ⟨rfl, rfl, rfl, rfl, rfl, rfl, trivial⟩, rfl, by omega, by omega, ⟨c1, c2, by rw [List.length_set]; omega, e2.blk L6 (by omega) c4, e2.blk L7 (by omega) c5, (c6.trans e2).set (by omega), by rw [List.getElem?_set_ne (by omega)]; exact g6, .inr (.inr ⟨rfl, e1.set (by omega) (by omega) (e2.blk L7 (by omega) c5), List.getElem?_set_self (by omega)⟩)⟩⟩⟩
      · exact absurd hlt (by omega)
    · rcases c8 with ⟨rfl, d1, d2⟩ | ⟨rfl, d1, d2⟩ | ⟨rfl, d1, d2⟩
      · exact absurd hge (by omega)
      · exact absurd hge (by omega)
      · refine ⟨_, load_c (contOf_live d2) rfl rfl, ?_⟩
        refine ⟨_, _, c7, ⟨rfl, Nat.le_of_ble_eq_true rfl, rfl⟩, _, rfl, _, rfl, ?_⟩
        refine ⟨_, load_c (contOf_live (List.getElem?_set_self (by omega))) rfl rfl, ?_⟩
        exact endm [] (by dsimp only; omega) ⟨v', rfl, d1.set (by omega) (by omega) c4, c6.set c1⟩
end Go.PI
