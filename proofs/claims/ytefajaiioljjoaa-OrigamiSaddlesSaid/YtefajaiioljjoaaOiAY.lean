/- Own work of the verifier: OgF OgG. -/
import Derived.Test.YtefajaiioljjoaaOiAX
set_option linter.all false
set_option exponentiation.threshold 3000
set_option linter.deprecated false
/- THE CYCLES of the reference; lists compared. -/
open Go.Proofs
namespace Go.PI
open IM
set_option maxRecDepth 10000
set_option maxHeartbeats 4000000
variable (S : FuncId → Option (List AV → Heap → Option (AV × Heap)))
/-- w is the least one of i and of the first k of its cycle -/
def LeastTo (f : Nat → Nat) (i k w : Nat) : Prop := InC f i w ∧ w ≤ i ∧ ∀ j, j < k → w ≤ it f j i
theorem leastTo_next {f : Nat → Nat} {i k w : Nat} (h : LeastTo f i k w) : LeastTo f i (k + 1) (min w (it f k i)) := by
  refine ⟨?_, by have := h.2.1; omega, fun j hj => ?_⟩
  · rcases Nat.le_total w (it f k i) with a | a
    · rw [Nat.min_eq_left a]; exact h.1
    · rw [Nat.min_eq_right a]; exact ⟨k, rfl⟩
  · by_cases hjk : j = k
    · subst hjk; omega
    · have := h.2.2 j (by omega); omega
theorem least_lead {n : Nat} {f g : Nat → Nat} (hp : IsP n f g) {i w : Nat} (hi : i < n) (h : LeastTo f i (ordr f i) w) : w = i ↔ lead f i := by
  constructor
  · rintro rfl y hy
    obtain ⟨k, hk, e⟩ := List.mem_map.1 ((mem_cyc hp hi).2 ⟨y, rfl, hy⟩)
    have := h.2.2 k (List.mem_range.1 hk)
    omega
  · intro hl
    have := hl w h.1
    have := h.2.1
    omega
theorem fn26 : ctx.fn 26 = some c26 := by kernel_rfl
theorem rcycles_ct (hS : OldO S) {n : Nat} {f g : Nat → Nat} (h : IsP n f g) (hn : n ≤ 1000) : Ct (ctx.plus S) 26 [pIs (PL n f)] (n * (2 * n + 2)) fun r => r = pM (cycs n f) := by
  have hl : (PL n f).length = n := PL_len
  refine ct_of (hS 26 (by decide)) fn26 ?_
  refine ⟨fun m s => ∃ (i b : Nat) (v : PV) (σ : List StB) (T : List PV), s = ⟨T, σ, b⟩ ∧ Gt T 38 [(0, pIs (PL n f)), (3, v), (4, pn i)] ∧ m = n - i ∧ i ≤ n ∧ b ≤ i * (2 * n + 2) ∧ Hid (Gr pIs 22 v σ (cycs i f)), ⟨_, ci ⟨0, 0, .nils, [], _, rfl, ⟨rfl, rfl, rfl, rfl, trivial⟩, rfl, Nat.zero_le _, by omega, ⟨.nil⟩⟩⟩, ?_⟩
  rintro _ s ⟨i, b, v, σ, T, rfl, hT, rfl, hi, hb, hg⟩
  obtain ⟨J, rfl⟩ := gt_open hT
  clear hT
  have hmul : i < n → b + (2 * n + 2) ≤ (i + 1) * (2 * n + 2) := fun _ => by rw [Nat.add_mul]; omega
  have hmul2 : i < n → (i + 1) * (2 * n + 2) ≤ n * (2 * n + 2) := fun hlt => Nat.mul_le_mul_right _ hlt
  refine ⟨fun hlt => ?_, fun hge => ?_⟩
  · have hin : i < n := by omega
    have hmul := hmul hin
    have hmul2 := hmul2 hin
    obtain ⟨o1, o2, o3, o4⟩ := ordr_spec h hin
    have hcl : (cyc f i).length = ordr f i := cyc_len
    refine callq rfl (rcycle_ct S hS h (by omega) (x := i) hin) (by omega) ?_
    rintro _ rfl
    refine ⟨fun m s => ∃ (k w : Nat) (T : List PV), s = ⟨T, σ, b + 2 * n⟩ ∧ Gt T 38 [(0, pIs (PL n f)), (3, v), (4, pn i), (5, pIs (cyc f i)), (6, pn w), (7, pn k)] ∧ m = ordr f i - k ∧ k ≤ ordr f i ∧ Hid (LeastTo f i k w), ⟨_, ci ⟨0, i, _, rfl, ⟨rfl, rfl, rfl, rfl, rfl, rfl, rfl, trivial⟩, rfl, Nat.zero_le _, ⟨InC.refl _ _, Nat.le_refl _, fun j hj => by omega⟩⟩⟩, ?_⟩
    rintro _ s ⟨k, w, T, rfl, hT, rfl, hk, hw⟩
    obtain ⟨J, rfl⟩ := gt_open hT
    clear hT
    refine ⟨fun hlt2 => ?_, fun hge2 => ?_⟩
    · refine ⟨⟨⟨by omega, by omega⟩, len_map_le (by omega)⟩, ?_⟩
      refine ⟨_, ld (at_map (cyc_at (show k < ordr f i by omega))) (by show _ * 1 = k; omega), ?_⟩
      refine ⟨⟨by omega, by omega⟩, ?_⟩
      exact ⟨_, by omega, ci ⟨k + 1, min w (it f k i), _, rfl, ⟨rfl, rfl, rfl, rfl, rfl, by show pn _ = pn _; congr 1; omega, rfl, trivial⟩, rfl, by omega, ⟨leastTo_next hw.h⟩⟩⟩
    · have hko : k = ordr f i := by omega
      subst hko
      have hll := least_lead h hin hw.h
      refine ⟨fun heq => ?_, fun hne => ?_⟩
      · have hlead : lead f i := hll.1 (by omega)
        refine ⟨by omega, part1 fzL ⟨[pIs (cyc f i)], rfl, ?_⟩⟩
        have hcn := cycs_len (f := f) (show i ≤ n by omega)
        refine appG (f := pIs) (e := 22) (y := cyc f i) hg.h.push push_cont rfl rfl rfl rfl (by kernel_rfl) rfl rfl (by omega) (by omega) fun v' σ2 hv' _ _ => ?_
        refine ⟨⟨by omega, by omega⟩, ?_⟩
        exact ⟨_, by omega, ci ⟨i + 1, _, v', σ2, _, rfl, ⟨rfl, rfl, rfl, rfl, trivial⟩, rfl, by omega, by omega, ⟨cycs_yes hlead ▸ hv'⟩⟩⟩
      · have hlead : ¬ lead f i := fun hc => hne (by have := hll.2 hc; omega)
        refine ⟨⟨by omega, by omega⟩, ?_⟩
        exact ⟨_, by omega, ci ⟨i + 1, _, v, σ, _, rfl, ⟨rfl, rfl, rfl, rfl, trivial⟩, rfl, by omega, by omega, ⟨cycs_no hlead ▸ hg.h⟩⟩⟩
  · have hin : i = n := by omega
    subst hin
    obtain ⟨σ', hf⟩ := hg.h.fz
    exact endf hf rfl
theorem fn30 : ctx.fn 30 = some c30 := by kernel_rfl
def Eqs (xs ys : List Int) (i : Nat) : Prop := xs.take i = ys.take i
theorem eqs_next {xs ys : List Int} {i : Nat} {a b : Int} (h : Eqs xs ys i) (hx : xs[i]? = some a) (hy : ys[i]? = some b) (he : a = b) : Eqs xs ys (i + 1) := by
  unfold Eqs at *
  rw [take_snoc hx, take_snoc hy, h, he]
theorem ints_ct (hS : OldO S) {xs ys : List Int} (hx : xs.length ≤ 1000000) (hy : ys.length ≤ 1000000) : Ct (ctx.plus S) 30 [pIs xs, pIs ys] 0 fun r => r = .bool (decide (xs = ys)) := by
  refine ct_of (hS 30 (by decide)) fn30 ?_
  refine ⟨fun hne => ?_, fun heq => ?_⟩
  · exact endq rfl (by rw [decide_eq_false (fun h => hne (by rw [h]))])
  have hle : xs.length = ys.length := by omega
  refine ⟨fun m s => ∃ (i : Nat) (T : List PV), s = ⟨T, [], 0⟩ ∧ Gt T 26 [(0, pIs xs), (1, pIs ys), (5, pn i)] ∧ m = xs.length - i ∧ i ≤ xs.length ∧ Hid (Eqs xs ys i), ⟨_, ci ⟨0, _, rfl, ⟨rfl, rfl, rfl, rfl, trivial⟩, rfl, Nat.zero_le _, ⟨rfl⟩⟩⟩, ?_⟩
  rintro _ s ⟨i, T, rfl, hT, rfl, hi, hn⟩
  obtain ⟨J, rfl⟩ := gt_open hT
  clear hT
  refine ⟨fun hlt => ?_, fun hge => ?_⟩
  · obtain ⟨a, ha⟩ := xs_get (xs := xs) (i := i) (by omega)
    obtain ⟨b, hb⟩ := xs_get (xs := ys) (i := i) (by omega)
    refine ⟨by kernel_rfl, ?_⟩
    refine ⟨⟨⟨by omega, by omega⟩, len_map_le (by omega)⟩, ?_⟩
    refine ⟨_, ld (at_map ha) (by show _ * 1 = i; omega), rfl, ?_⟩
    refine ⟨⟨⟨by omega, by omega⟩, len_map_le (by omega)⟩, ?_⟩
    refine ⟨_, ld (at_map hb) (by show _ * 1 = i; omega), rfl, ?_⟩
    refine ⟨fun hne => ?_, fun heq => ?_⟩
    · exact endq rfl (by rw [decide_eq_false (fun h => by rw [h, hb] at ha; cases ha; exact hne rfl)])
    · refine ⟨⟨by omega, by omega⟩, ?_⟩
      exact ⟨_, by omega, ci ⟨i + 1, _, rfl, ⟨rfl, rfl, rfl, rfl, trivial⟩, rfl, by omega, ⟨eqs_next hn.h ha hb (by omega)⟩⟩⟩
  · exact endq rfl (by rw [decide_eq_true (by have := hn.h; unfold Eqs at this; rwa [List.take_of_length_le (by omega), List.take_of_length_le (by omega)] at this)])
theorem fn21 : ctx.fn 21 = some c21 := by kernel_rfl
theorem eqs_nextM {xs ys : List (List Int)} {i : Nat} {a b : List Int} (h : xs.take i = ys.take i) (hx : xs[i]? = some a) (hy : ys[i]? = some b) (he : a = b) : xs.take (i + 1) = ys.take (i + 1) := by
  rw [List.take_add_one, List.take_add_one, hx, hy, h, he]
theorem xs_getM {xs : List (List Int)} {i : Nat} (h : i < xs.length) : ∃ e, xs[i]? = some e := ⟨xs[i], List.getElem?_eq_getElem _⟩
theorem lists_ct (hS : OldO S) {X Y : List (List Int)} (hx : X.length ≤ 1000000) (hy : Y.length ≤ 1000000) (ax : ∀ x ∈ X, x.length ≤ 1000000) (ay : ∀ x ∈ Y, x.length ≤ 1000000) :
    Ct (ctx.plus S) 21 [pM X, pM Y] 0 fun r => r = .bool (decide (X = Y)) := by
  refine ct_of (hS 21 (by decide)) fn21 ?_
  refine ⟨fun hne => ?_, fun heq => ?_⟩
  · exact endq rfl (by rw [decide_eq_false (fun h => hne (by rw [h]))])
  have hle : X.length = Y.length := by omega
  refine ⟨fun m s => ∃ (i : Nat) (T : List PV), s = ⟨T, [], 0⟩ ∧ Gt T 27 [(0, pM X), (1, pM Y), (5, pn i)] ∧ m = X.length - i ∧ i ≤ X.length ∧ Hid (X.take i = Y.take i), ⟨_, ci ⟨0, _, rfl, ⟨rfl, rfl, rfl, rfl, trivial⟩, rfl, Nat.zero_le _, ⟨rfl⟩⟩⟩, ?_⟩
  rintro _ s ⟨i, T, rfl, hT, rfl, hi, hn⟩
  obtain ⟨J, rfl⟩ := gt_open hT
  clear hT
  refine ⟨fun hlt => ?_, fun hge => ?_⟩
  · obtain ⟨a, ha⟩ := xs_getM (xs := X) (i := i) (by omega)
    obtain ⟨b, hb⟩ := xs_getM (xs := Y) (i := i) (by omega)
    refine ⟨by kernel_rfl, ?_⟩
    refine ⟨⟨⟨by omega, by omega⟩, len_map_le (by omega)⟩, ?_⟩
    refine ⟨_, ld (at_map ha) (by show _ * 1 = i; omega), rfl, ?_⟩
    refine ⟨⟨⟨by omega, by omega⟩, len_map_le (by omega)⟩, ?_⟩
    refine ⟨_, ld (at_map hb) (by show _ * 1 = i; omega), rfl, ?_⟩
    refine callq rfl (ints_ct S hS (ax _ (List.mem_of_getElem? ha)) (ay _ (List.mem_of_getElem? hb))) (by omega) ?_
    rintro _ rfl
    by_cases hab : a = b
    · rw [decide_eq_true hab]
      refine ⟨⟨by omega, by omega⟩, ?_⟩
      exact ⟨_, by omega, ci ⟨i + 1, _, rfl, ⟨rfl, rfl, rfl, rfl, trivial⟩, rfl, by omega, ⟨eqs_nextM hn.h ha hb hab⟩⟩⟩
    · rw [decide_eq_false hab]
      exact endq rfl (by rw [decide_eq_false (fun h => by rw [h, hb] at ha; cases ha; exact hab rfl)])
  · exact endq rfl (by rw [decide_eq_true (by have := hn.h; rwa [List.take_of_length_le (by omega), List.take_of_length_le (by omega)] at this)])
end Go.PI
/- ANSWERS of the program; the law of vertices. -/
open Go.Proofs
namespace Go.PI
open IM
set_option maxRecDepth 10000
set_option maxHeartbeats 4000000
variable (S : FuncId → Option (List AV → Heap → Option (AV × Heap)))
def flO (L : List (List Int × List Int)) : List PV := L.flatMap fun p => [pIs p.1, pIs p.2]
/-- a slice of origamis -/
def pOs (L : List (List Int × List Int)) : PV := .lst L.length (flO L)
theorem flO_len : ∀ {L : List (List Int × List Int)}, (flO L).length = 2 * L.length
  | [] => rfl
  | p :: L => by
    have := flO_len (L := L)
    unfold flO at this ⊢
    rw [List.flatMap_cons, List.length_append, this]
    simp only [List.length_cons, List.length_nil]
    omega
theorem flO_at : ∀ {L : List (List Int × List Int)} {i q : Nat} {r u : List Int}, L[i]? = some (r, u) → q = 2 * i → ((flO L).drop q).take 2 = [pIs r, pIs u]
  | [], _, _, _, _, h, _ => by simp at h
  | p :: L, 0, _, r, u, h, hq => by
    simp at h
    subst h; subst hq
    rfl
  | p :: L, i + 1, q, r, u, h, hq => by
    have e : flO (p :: L) = pIs p.1 :: pIs p.2 :: flO L := rfl
    rw [e, hq, show 2 * (i + 1) = 2 * i + 1 + 1 by omega, List.drop_succ_cons, List.drop_succ_cons]
    exact flO_at (by simpa using h) rfl
open Classical in
/-- the error of the first one that has one -/
noncomputable def chkA : List (List Int × List Int) → Int
  | [] => 0
  | p :: L => if chkO p.1 p.2 ≠ 0 then chkO p.1 p.2 else chkA L
theorem chkA_bad : ∀ {L : List (List Int × List Int)} {i : Nat} {r u : List Int}, (∀ p ∈ L.take i, chkO p.1 p.2 = 0) → L[i]? = some (r, u) → chkO r u ≠ 0 → chkA L = chkO r u
  | [], _, _, _, _, h, _ => by simp at h
  | p :: L, 0, r, u, _, h, h2 => by
    simp at h
    subst h
    unfold chkA; rw [if_pos h2]
  | p :: L, i + 1, r, u, h0, h, h2 => by
    have := h0 p (by simp)
    unfold chkA
    rw [if_neg (fun e => e this)]
    exact chkA_bad (i := i) (fun q hq => h0 q (by simp [hq])) (by simpa using h) h2
theorem chkA_ok : ∀ {L : List (List Int × List Int)}, (∀ p ∈ L, chkO p.1 p.2 = 0) → chkA L = 0
  | [], _ => rfl
  | p :: L, h => by
    unfold chkA
    rw [if_neg (fun e => e (h p (by simp)))]
    exact chkA_ok fun q hq => h q (by simp [hq])
theorem chkA_one {r u : List Int} : chkA [(r, u)] = chkO r u := by
  unfold chkA
  by_cases h : chkO r u = 0
  · rw [if_neg (fun e => e h), h]; rfl
  · rw [if_pos h]
theorem fn63 : ctx.fn 63 = some c63 := by kernel_rfl
theorem checkAll_ct (hS : OldO S) {L : List (List Int × List Int)} (hL : L.length ≤ 10) (hl : ∀ p ∈ L, p.1.length ≤ 1000000 ∧ p.2.length ≤ 1000000) : Ct (ctx.plus S) 63 [pOs L] (6 * L.length) fun v => v = pn (chkA L) := by
  refine ct_of (hS 63 (by decide)) fn63 ?_
  refine ⟨fun m s => ∃ (i b : Nat) (σ : List StB) (T : List PV), s = ⟨T, σ, b⟩ ∧ Gt T 18 [(6, pOs L), (7, pn L.length), (8, pn i)] ∧ m = L.length - i ∧ i ≤ L.length ∧ b ≤ 6 * i ∧ Hid (∀ p ∈ L.take i, chkO p.1 p.2 = 0), ⟨_, ci ⟨0, 0, [], _, rfl, ⟨rfl, rfl, rfl, rfl, trivial⟩, rfl, Nat.zero_le _, Nat.le_refl _, ⟨fun p hp => by simp at hp⟩⟩⟩, ?_⟩
  rintro _ s ⟨i, b, σ, T, rfl, hT, rfl, hi, hb, hz⟩
  obtain ⟨J, rfl⟩ := gt_open hT
  clear hT
  refine ⟨fun hlt => ?_, fun hge => ?_⟩
  · obtain ⟨⟨r, u⟩, he⟩ : ∃ p, L[i]? = some p := ⟨L[i]'(by omega), List.getElem?_eq_getElem _⟩
    obtain ⟨l1, l2⟩ := hl _ (List.mem_of_getElem? he)
    have hfl : (flO L).length = 2 * L.length := flO_len
    refine ⟨⟨⟨by omega, by omega⟩, by rw [hfl]; show i * 2 ≤ _; omega⟩, ?_⟩
    have hat : ∀ q, q = 2 * i → partP t24 ((flO L).drop q) 0 = some (pO r u) := fun q hq => by
      show (if 0 + 2 ≤ ((flO L).drop q).length then some (PV.agg ((((flO L).drop q).drop 0).take 2)) else none) = _
      rw [if_pos (by rw [List.length_drop, hfl]; omega), List.drop_zero, flO_at he hq]
      rfl
    refine ⟨_, hat _ (by show _ * 2 = _; omega), ?_⟩
    refine ⟨by omega, ?_⟩
    refine ⟨_, _, push_get, ⟨rfl, by decide, rfl⟩, _, rfl, _, push_set, ?_⟩
    refine ⟨_, (show ploadE _ _ 24 (.optr σ.length 0) = some (pO r u) by unfold ploadE; rw [show (ctx.plus S).ty 24 = some t24 from rfl]; simp only [push_cont]; rfl), ?_⟩
    refine callq rfl (check_ct S hS l1 l2) (by omega) ?_
    rintro _ rfl
    refine ⟨fun h0 => ?_, fun h0 => ?_⟩
    · exact endq rfl (by rw [chkA_bad hz.h he h0])
    · refine ⟨⟨by omega, by omega⟩, ?_⟩
      exact ⟨_, by omega, ci ⟨i + 1, _, _, _, rfl, ⟨rfl, rfl, rfl, rfl, trivial⟩, rfl, by omega, by omega, ⟨fun p hp => by
        rw [List.take_add_one, he] at hp
        rcases List.mem_append.1 hp with hp | hp
        · exact hz.h p hp
        · simp at hp; subst hp; exact h0⟩⟩⟩
  · exact endq rfl (by rw [chkA_ok]; have := hz.h; rwa [List.take_of_length_le (by omega)] at this)
theorem fn85 : ctx.fn 85 = some c85 := by kernel_rfl
theorem fn62 : ctx.fn 62 = some c62 := by kernel_rfl
theorem answer85_ct (hS : OldO S) {r u : List Int} {chk dc g d : Nat} {e : Int} {Q : PV → Prop} (hc : Ct (ctx.plus S) chk [pOs [(r, u)]] dc fun v => v = pn e) (hq : ∀ v, Q v → cloA v = true) (hg : e = 0 → Ct (ctx.plus S) g [pO r u] d Q) :
    Ct (ctx.plus S) 85 [pO r u, .fn chk, .fn g] (2 + dc + d) fun v => (e ≠ 0 ∧ v = .tup [.lst 0 [], pn e]) ∨ (e = 0 ∧ ∃ w, Q w ∧ v = .tup [w, pn 0]) := by
  refine ct_of (hS 85 (by decide)) fn85 ?_
  refine ⟨by omega, ?_⟩
  refine ⟨_, rfl, ?_⟩
  refine ⟨by omega, partc rfl ⟨_, rfl, ?_⟩⟩
  refine cal1 (fz_own (ty := 24) rfl (Nat.le_refl 2) (Nat.le_refl _) rfl) hc (by omega) ?_
  rintro _ rfl
  refine ⟨fun h0 => ?_, fun h0 => ?_⟩
  · exact ⟨⟨[], .inl ⟨h0, rfl⟩⟩⟩
  · refine ⟨_, rfl, ?_⟩
    refine callq rfl (hg h0) (by omega) ?_
    intro w hw
    exact endsq (by simp only [cloAs, hq w hw]; rfl) (.inr ⟨h0, w, hw, rfl⟩)
theorem answer62_ct (hS : OldO S) {r u : List Int} {chk dc g d : Nat} {e : Int} {Q : PV → Prop} (hc : Ct (ctx.plus S) chk [pOs [(r, u)]] dc fun v => v = pn e) (hq : ∀ v, Q v → cloA v = true) (hg : e = 0 → Ct (ctx.plus S) g [pO r u] d Q) :
    Ct (ctx.plus S) 62 [pO r u, .fn chk, .fn g] (2 + dc + d) fun v => (e ≠ 0 ∧ v = .tup [.lst 0 [], pn e]) ∨ (e = 0 ∧ ∃ w, Q w ∧ v = .tup [w, pn 0]) := by
  refine ct_of (hS 62 (by decide)) fn62 ?_
  refine ⟨by omega, ?_⟩
  refine ⟨_, rfl, ?_⟩
  refine ⟨by omega, partc rfl ⟨_, rfl, ?_⟩⟩
  refine cal1 (fz_own (ty := 24) rfl (Nat.le_refl 2) (Nat.le_refl _) rfl) hc (by omega) ?_
  rintro _ rfl
  refine ⟨fun h0 => ?_, fun h0 => ?_⟩
  · exact ⟨⟨[], .inl ⟨h0, rfl⟩⟩⟩
  · refine ⟨_, rfl, ?_⟩
    refine callq rfl (hg h0) (by omega) ?_
    intro w hw
    exact endsq (by simp only [cloAs, hq w hw]; rfl) (.inr ⟨h0, w, hw, rfl⟩)
theorem fn42 : ctx.fn 42 = some c42 := by kernel_rfl
theorem check1_ct (hS : OldO S) {r u : List Int} (l1 : r.length ≤ 1000000) (l2 : u.length ≤ 1000000) : Ct (ctx.plus S) 63 [pOs [(r, u)]] 6 fun v => v = pn (chkO r u) := by
  have := checkAll_ct S hS (L := [(r, u)]) (by simp) (fun p hp => by rw [List.mem_singleton.1 hp]; exact ⟨l1, l2⟩)
  rw [chkA_one] at this
  exact this
theorem nodup_PL {n : Nat} {f g : Nat → Nat} (h : IsP n f g) : (PL n f).Nodup := by
  unfold PL List.Nodup
  rw [List.pairwise_map]
  refine List.pairwise_lt_range.imp_of_mem fun {a b} ha hb hab e => ?_
  have := h.inj (List.mem_range.1 ha) (List.mem_range.1 hb) (by omega)
  omega
theorem IsO.chk {r u : List Int} {n : Nat} {f f' g g' : Nat → Nat} (h : IsO r u n f f' g g') : chkO r u = 0 := by
  obtain ⟨h0, hn, rfl, rfl, pr, pu⟩ := h
  rw [chkOu (by simp only [PL_len]; omega) (by rw [PL_len]; omega) (chk0 (inR_PL pr) (nodup_PL pr)), chk0 (inR_PL pu) (nodup_PL pu)]
theorem IsO.l1 {r u : List Int} {n : Nat} {f f' g g' : Nat → Nat} (h : IsO r u n f f' g g') : r.length = n ∧ u.length = n := by rw [h.hr, h.hu]; exact ⟨PL_len, PL_len⟩
theorem pcommutator_ct (hS : OldO S) {r u : List Int} {n : Nat} {f f' g g' : Nat → Nat} (h : IsO r u n f f' g g') : Ct (ctx.plus S) 42 [pO r u] 20 fun v => v = .tup [pIs (PL n (cmf f f' g g')), pn 0] := by
  have hl := h.l1
  have hn := h.le
  refine ct_of (hS 42 (by decide)) fn42 ?_
  refine ⟨by omega, ?_⟩
  refine ⟨_, rfl, ?_⟩
  refine callq rfl (answer85_ct S hS (check1_ct S hS (by omega) (by omega)) (Q := fun v => v = pIs (PL n (cmf f f' g g'))) (fun v e => by rw [e]; rfl) (d := 6) fun h0 => commutator_ct S hS h) (by omega) ?_
  rintro _ (⟨h0, rfl⟩ | ⟨h0, w, rfl, rfl⟩)
  · exact absurd h.chk h0
  · exact endsq rfl rfl
theorem pcommutator_bad (hS : OldO S) {r u : List Int} (l1 : r.length ≤ 1000000) (l2 : u.length ≤ 1000000) (hb : chkO r u ≠ 0) : Ct (ctx.plus S) 42 [pO r u] 20 fun v => v = .tup [.lst 0 [], pn (chkO r u)] := by
  refine ct_of (hS 42 (by decide)) fn42 ?_
  refine ⟨by omega, ?_⟩
  refine ⟨_, rfl, ?_⟩
  refine callq rfl (answer85_ct S hS (check1_ct S hS l1 l2) (Q := fun _ => False) (fun v e => e.elim) (d := 6) fun h0 => absurd h0 hb) (by omega) ?_
  rintro _ (⟨h0, rfl⟩ | ⟨h0, w, hw, rfl⟩)
  · exact endsq rfl rfl
  · exact absurd h0 hb
theorem fn87 : ctx.fn 87 = some c87 := by kernel_rfl
theorem vertices_ct (hS : OldO S) {r u : List Int} {n : Nat} {f f' g g' : Nat → Nat} (h : IsO r u n f f' g g') : Ct (ctx.plus S) 87 [pO r u] 10000 fun v => v = pM (cycs n (cmf f f' g g')) := by
  have hn := h.le
  have hm : n * (2 * n + 2) ≤ 60 * 122 := Nat.mul_le_mul hn (by omega)
  refine ct_of (hS 87 (by decide)) fn87 ?_
  refine ⟨by omega, ?_⟩
  refine ⟨_, rfl, ?_⟩
  refine callq rfl (commutator_ct S hS h) (by omega) ?_
  rintro _ rfl
  refine callq rfl (cycles_ct S hS h.cm (by omega)) (by omega) ?_
  rintro _ rfl
  exact endq rfl rfl
theorem fn45 : ctx.fn 45 = some c45 := by kernel_rfl
theorem rvertices_ct (hS : OldO S) {r u : List Int} {n : Nat} {f f' g g' : Nat → Nat} (h : IsO r u n f f' g g') : Ct (ctx.plus S) 45 [pO r u] 10000 fun v => v = pM (cycs n (cmf f f' g g')) := by
  have hn := h.le
  have hm : n * (2 * n + 2) ≤ 60 * 122 := Nat.mul_le_mul hn (by omega)
  refine ct_of (hS 45 (by decide)) fn45 ?_
  refine ⟨by omega, ?_⟩
  refine ⟨_, rfl, ?_⟩
  refine callq rfl (rcommutator_ct S hS h) (by omega) ?_
  rintro _ rfl
  refine callq rfl (rcycles_ct S hS h.cm (by omega)) (by omega) ?_
  rintro _ rfl
  exact endq rfl rfl
theorem fn43 : ctx.fn 43 = some c43 := by kernel_rfl
theorem pvertices_ct (hS : OldO S) {r u : List Int} {n : Nat} {f f' g g' : Nat → Nat} (h : IsO r u n f f' g g') : Ct (ctx.plus S) 43 [pO r u] 10100 fun v => v = .tup [pM (cycs n (cmf f f' g g')), pn 0] := by
  have hl := h.l1
  have hn := h.le
  refine ct_of (hS 43 (by decide)) fn43 ?_
  refine ⟨by omega, ?_⟩
  refine ⟨_, rfl, ?_⟩
  refine callq rfl (answer62_ct S hS (check1_ct S hS (by omega) (by omega)) (Q := fun v => v = pM (cycs n (cmf f f' g g'))) (fun v e => by rw [e]; rfl) (d := 10000) fun h0 => vertices_ct S hS h) (by omega) ?_
  rintro _ (⟨h0, rfl⟩ | ⟨h0, w, rfl, rfl⟩)
  · exact absurd h.chk h0
  · exact endsq rfl rfl
theorem pvertices_bad (hS : OldO S) {r u : List Int} (l1 : r.length ≤ 1000000) (l2 : u.length ≤ 1000000) (hb : chkO r u ≠ 0) : Ct (ctx.plus S) 43 [pO r u] 10100 fun v => v = .tup [.lst 0 [], pn (chkO r u)] := by
  refine ct_of (hS 43 (by decide)) fn43 ?_
  refine ⟨by omega, ?_⟩
  refine ⟨_, rfl, ?_⟩
  refine callq rfl (answer62_ct S hS (check1_ct S hS l1 l2) (Q := fun _ => False) (fun v e => e.elim) (d := 10000) fun h0 => absurd h0 hb) (by omega) ?_
  rintro _ (⟨h0, rfl⟩ | ⟨h0, w, hw, rfl⟩)
  · exact endsq rfl rfl
  · exact absurd h0 hb
theorem cycs_mem {n : Nat} {f g : Nat → Nat} (h : IsP n f g) : ∀ x ∈ cycs n f, x.length ≤ n := fun x hx => by
  unfold cycs at hx
  obtain ⟨i, hi, rfl⟩ := List.mem_map.1 hx
  have := List.mem_range.1 (List.mem_filter.1 hi).1
  rw [cyc_len]
  exact (ordr_spec h this).2.2.1
theorem fn8 : ctx.fn 8 = some c8 := by kernel_rfl
theorem vertLaw_ct (hS : OldO S) (hA : Ct (ctx.plus S) 13 [] 0 fun r => r = .bool true) {r u : List Int} : Ct (ctx.plus S) 8 [pO r u] 100000 fun v => v = .bool true := by
  refine ct_of (hS 8 (by decide)) fn8 ?_
  refine ⟨by omega, ?_⟩
  refine callq rfl hA (by omega) ?_
  rintro _ rfl
  refine ⟨_, rfl, ?_⟩
  refine callq rfl (few_ct S hS) (by omega) ?_
  rintro _ (⟨hf, rfl⟩ | ⟨hf, rfl⟩)
  · have l1 : r.length ≤ 62 ∧ u.length ≤ 62 := by rcases hf with h | h <;> omega
    by_cases h0 : chkO r u = 0
    · obtain ⟨n, f, f', g, g', h⟩ := chkO_ok h0
      have hn := h.le
      refine ⟨_, rfl, ?_⟩
      refine callq rfl (pcommutator_ct S hS h) (by omega) ?_
      rintro _ rfl
      refine ⟨_, rfl, ?_⟩
      refine callq rfl (pvertices_ct S hS h) (by omega) ?_
      rintro _ rfl
      refine ⟨_, rfl, ?_⟩
      refine callq rfl (rcheck_ct S hS (by omega) (by omega)) (by omega) ?_
      rintro _ rfl
      rw [h0]
      refine ⟨fun h => absurd rfl h, fun _ => ?_⟩
      refine ⟨fun _ => ?_, fun h => absurd rfl h⟩
      refine ⟨fun _ => ?_, fun h => absurd rfl h⟩
      refine ⟨_, rfl, ?_⟩
      refine callq rfl (rcommutator_ct S hS h) (by omega) ?_
      rintro _ rfl
      refine callq rfl (ints_ct S hS (by rw [PL_len]; omega) (by rw [PL_len]; omega)) (by omega) ?_
      rintro _ rfl
      rw [decide_eq_true rfl]
      refine ⟨_, rfl, ?_⟩
      refine callq rfl (rvertices_ct S hS h) (by omega) ?_
      rintro _ rfl
      have hcl := cycs_len (f := cmf f f' g g') (Nat.le_refl n)
      have hce : ∀ x ∈ cycs n (cmf f f' g g'), x.length ≤ 1000000 := fun x hx => by have := cycs_mem h.cm x hx; omega
      refine callq rfl (lists_ct S hS (by omega) (by omega) hce hce) (by omega) ?_
      rintro _ rfl
      rw [decide_eq_true rfl]
      exact endq rfl rfl
    · refine ⟨_, rfl, ?_⟩
      refine callq rfl (pcommutator_bad S hS (by omega) (by omega) h0) (by omega) ?_
      rintro _ rfl
      refine ⟨_, rfl, ?_⟩
      refine callq rfl (pvertices_bad S hS (by omega) (by omega) h0) (by omega) ?_
      rintro _ rfl
      refine ⟨_, rfl, ?_⟩
      refine callq rfl (rcheck_ct S hS (by omega) (by omega)) (by omega) ?_
      rintro _ rfl
      refine ⟨fun _ => ?_, fun h => absurd h h0⟩
      refine ⟨fun _ => ?_, fun h => absurd rfl h⟩
      refine ⟨fun _ => ?_, fun h => absurd rfl h⟩
      refine ⟨fun _ => ?_, fun h => absurd rfl h⟩
      refine ⟨fun _ => ?_, fun h => absurd rfl h⟩
      exact endq rfl rfl
  · exact endq rfl rfl
end Go.PI
