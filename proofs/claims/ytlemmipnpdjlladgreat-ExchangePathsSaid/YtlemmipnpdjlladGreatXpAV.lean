/- Own work of the verifier: XpC XpD XpE XpF XpG XpH XpI XpJ XpK XpL. -/
import Derived.Test.YtlemmipnpdjlladGreatXpAU
set_option linter.all false
set_option exponentiation.threshold 3000
set_option linter.deprecated false
/- ROWS: checks, with plain values. -/
open Go.Proofs
namespace Go.PI
open IM
set_option maxRecDepth 10000
set_option maxHeartbeats 4000000
variable (S : FuncId → Option (List AV → Heap → Option (AV × Heap)))
def pRo (t b : List Int) : PV := .agg [pIs t, pIs b]
theorem fn6 : ctx.fn 6 = some c6 := by kernel_rfl
theorem few_ct (hS : OldX S) {t b : List Int} : Ct (ctx.plus S) 6 [pRo t b] 1 fun r => ((t.length ≤ 12 ∧ b.length ≤ 12) ∧ r = .bool true) ∨ (¬ (t.length ≤ 12 ∧ b.length ≤ 12) ∧ r = .bool false) := by
  refine ct_of (hS 6 (by decide)) fn6 ?_
  refine ⟨by omega, ?_⟩
  refine ⟨_, rfl, ?_⟩
  refine ⟨fun h1 => ?_, fun h1 => ?_⟩
  · refine ⟨_, rfl, ?_⟩
    refine ⟨fun h2 => ?_, fun h2 => ?_⟩
    · exact endq rfl (.inl ⟨⟨by omega, by omega⟩, rfl⟩)
    · exact endq rfl (.inr ⟨by omega, rfl⟩)
  · exact endq rfl (.inr ⟨by omega, rfl⟩)
theorem fn12 : ctx.fn 12 = some c12 := by kernel_rfl
theorem empty_ct (hS : OldX S) {t b : List Int} : Ct (ctx.plus S) 12 [pRo t b] 1 fun r => ((t.length = 0 ∧ b.length = 0) ∧ r = .bool true) ∨ (¬ (t.length = 0 ∧ b.length = 0) ∧ r = .bool false) := by
  refine ct_of (hS 12 (by decide)) fn12 ?_
  refine ⟨by omega, ?_⟩
  refine ⟨_, rfl, ?_⟩
  refine ⟨fun h1 => ?_, fun h1 => ?_⟩
  · refine ⟨_, rfl, ?_⟩
    refine ⟨fun h2 => ?_, fun h2 => ?_⟩
    · exact endq rfl (.inl ⟨⟨by omega, by omega⟩, rfl⟩)
    · exact endq rfl (.inr ⟨by omega, rfl⟩)
  · exact endq rfl (.inr ⟨by omega, rfl⟩)
theorem fn14 : ctx.fn 14 = some c14 := by kernel_rfl
theorem sameRows_ct (hS : OldX S) {t b t' b' : List Int} (l1 : t.length ≤ 1000000) (l2 : b.length ≤ 1000000) (l3 : t'.length ≤ 1000000) (l4 : b'.length ≤ 1000000) :
    Ct (ctx.plus S) 14 [pRo t b, pRo t' b'] 2 fun r => r = .bool (decide (t = t' ∧ b = b')) := by
  refine ct_of (hS 14 (by decide)) fn14 ?_
  refine ⟨by omega, by omega, ?_⟩
  refine ⟨_, rfl, ?_⟩
  refine ⟨_, rfl, ?_⟩
  refine callq rfl (ints_ct S hS l1 l3) (by omega) ?_
  rintro _ rfl
  by_cases h1 : t = t'
  · rw [decide_eq_true h1]
    refine ⟨_, rfl, ?_⟩
    refine ⟨_, rfl, ?_⟩
    refine callq rfl (ints_ct S hS l2 l4) (by omega) ?_
    rintro _ rfl
    exact endq rfl (by simp [h1])
  · rw [decide_eq_false h1]
    exact endq rfl (by simp [h1])
theorem fn15 : ctx.fn 15 = some c15 := by kernel_rfl
/-- a slice of slices of integers -/
def pM (M : List (List Int)) : PV := .lst M.length (M.map pIs)
theorem eqs_nextM {xs ys : List (List Int)} {i : Nat} {a b : List Int} (h : xs.take i = ys.take i) (hx : xs[i]? = some a) (hy : ys[i]? = some b) (he : a = b) : xs.take (i + 1) = ys.take (i + 1) := by
  rw [List.take_add_one, List.take_add_one, hx, hy, h, he]
theorem xs_getM {xs : List (List Int)} {i : Nat} (h : i < xs.length) : ∃ e, xs[i]? = some e := ⟨xs[i], List.getElem?_eq_getElem _⟩
theorem lists_ct (hS : OldX S) {X Y : List (List Int)} (hx : X.length ≤ 1000000) (hy : Y.length ≤ 1000000) (ax : ∀ x ∈ X, x.length ≤ 1000000) (ay : ∀ x ∈ Y, x.length ≤ 1000000) :
    Ct (ctx.plus S) 15 [pM X, pM Y] 0 fun r => r = .bool (decide (X = Y)) := by
  refine ct_of (hS 15 (by decide)) fn15 ?_
  refine ⟨fun hne => ?_, fun heq => ?_⟩
  · exact endq rfl (by rw [decide_eq_false (fun h => hne (by rw [h]))])
  have hle : X.length = Y.length := by omega
  refine ⟨fun m s => ∃ (i : Nat) (T : List PV), s = ⟨T, [], 0⟩ ∧ Gt T 27 [(0, pM X), (1, pM Y), (5, pn i)] ∧ m = X.length - i ∧ i ≤ X.length ∧ Hid (X.take i = Y.take i), ⟨_, ci ⟨0, _, rfl, ⟨rfl, rfl, rfl, rfl, trivial⟩, rfl, Nat.zero_le _, ⟨rfl⟩⟩⟩, ?_⟩
  rintro _ s ⟨i, T, rfl, hT, rfl, hi, hn⟩
  obtain ⟨J, rfl⟩ := gt_open hT
  clear hT
  refine ⟨fun hlt => ?_, fun hge => ?_⟩
  · obtain ⟨a, ha⟩ := xs_getM (xs := X) (i := i) (by omega)
    obtain ⟨b, hb⟩ := xs_getM (xs := Y) (i := i) (by omega)
    refine ⟨by kernel_rfl, ?_⟩
    refine ⟨⟨⟨by omega, by omega⟩, len_map_le (by omega)⟩, ?_⟩
    refine ⟨_, ld (at_map ha) (by show _ * 1 = i; omega), rfl, ?_⟩
    refine ⟨⟨⟨by omega, by omega⟩, len_map_le (by omega)⟩, ?_⟩
    refine ⟨_, ld (at_map hb) (by show _ * 1 = i; omega), rfl, ?_⟩
    refine callq rfl (ints_ct S hS (ax _ (List.mem_of_getElem? ha)) (ay _ (List.mem_of_getElem? hb))) (by omega) ?_
    rintro _ rfl
    by_cases hab : a = b
    · rw [decide_eq_true hab]
      refine ⟨⟨by omega, by omega⟩, ?_⟩
      exact ⟨_, by omega, ci ⟨i + 1, _, rfl, ⟨rfl, rfl, rfl, rfl, trivial⟩, rfl, by omega, ⟨eqs_nextM hn.h ha hb hab⟩⟩⟩
    · rw [decide_eq_false hab]
      exact endq rfl (by rw [decide_eq_false (fun h => by rw [h, hb] at ha; cases ha; exact hab rfl)])
  · exact endq rfl (by rw [decide_eq_true (by have := hn.h; rwa [List.take_of_length_le (by omega), List.take_of_length_le (by omega)] at this)])
/-- rows of 2 to 8 letters -/
def LenOK (t b : List Int) : Prop := b.length = t.length ∧ 2 ≤ t.length ∧ t.length ≤ 8
/-- each letter is in both rows -/
def OrdOK (t b : List Int) : Prop := Ord t t.length ∧ Ord b t.length
open Classical in
noncomputable def chkR (t b : List Int) : Int := if LenOK t b then if OrdOK t b then 0 else 3 else 10
theorem chk10 {t b : List Int} (h : ¬ LenOK t b) : chkR t b = 10 := by unfold chkR; rw [if_neg h]
theorem chk3 {t b : List Int} (h : LenOK t b) (h2 : ¬ OrdOK t b) : chkR t b = 3 := by unfold chkR; rw [if_pos h, if_neg h2]
theorem chk0 {t b : List Int} (h : LenOK t b) (h2 : OrdOK t b) : chkR t b = 0 := by unfold chkR; rw [if_pos h, if_pos h2]
theorem fn31 : ctx.fn 31 = some c31 := by kernel_rfl
theorem fn37 : ctx.fn 37 = some c37 := by kernel_rfl
theorem rrows_ct (hS : OldX S) {t b : List Int} (l1 : t.length ≤ 12) (l2 : b.length ≤ 12) : Ct (ctx.plus S) 31 [pRo t b] 1 fun r => r = pn (chkR t b) := by
  refine ct_of (hS 31 (by decide)) fn31 ?_
  refine ⟨by omega, ?_⟩
  refine ⟨_, rfl, ?_⟩
  refine ⟨_, rfl, ?_⟩
  refine ⟨fun h1 => ?_, fun h1 => ?_⟩
  · exact endq rfl (by rw [chk10 (fun h => h1 (by have := h.1; omega))])
  refine ⟨fun h2 => ?_, fun h2 => ?_⟩
  · exact endq rfl (by rw [chk10 (fun h => by have := h.2.1; omega)])
  refine ⟨fun h3 => ?_, fun h3 => ?_⟩
  · exact endq rfl (by rw [chk10 (fun h => by have := h.2.2; omega)])
  have hL : LenOK t b := ⟨by omega, by omega, by omega⟩
  refine ⟨_, rfl, ?_⟩
  refine callq rfl (order_ct S hS (n := t.length) (by omega) (by omega)) (by omega) ?_
  rintro _ (⟨h4, rfl⟩ | ⟨h4, rfl⟩)
  · refine ⟨_, rfl, ?_⟩
    refine callq rfl (order_ct S hS (n := t.length) (by omega) (by omega)) (by omega) ?_
    rintro _ (⟨h5, rfl⟩ | ⟨h5, rfl⟩)
    · exact endq rfl (by rw [chk0 hL ⟨h4.1, h5.1⟩])
    · exact endq rfl (by rw [chk3 hL (fun h => h5 ⟨h.2, hL.1⟩)])
  · exact endq rfl (by rw [chk3 hL (fun h => h4 ⟨h.1, rfl⟩)])
theorem rows_ct (hS : OldX S) {t b : List Int} (l1 : t.length ≤ 12) (l2 : b.length ≤ 12) : Ct (ctx.plus S) 37 [pRo t b] 1 fun r => r = pn (chkR t b) := by
  refine ct_of (hS 37 (by decide)) fn37 ?_
  refine ⟨by omega, ?_⟩
  refine ⟨_, rfl, ?_⟩
  refine ⟨_, rfl, ?_⟩
  refine ⟨fun h1 => ?_, fun h1 => ?_⟩
  · exact endq rfl (by rw [chk10 (fun h => h1 (by have := h.1; omega))])
  refine callq rfl (within61_ct S hS) (by omega) ?_
  rintro _ rfl
  by_cases h2 : (2 : Int) ≤ t.length ∧ (t.length : Int) ≤ 8
  · rw [decide_eq_true h2]
    have hL : LenOK t b := ⟨by omega, by omega, by omega⟩
    refine ⟨_, rfl, ?_⟩
    refine callq rfl (isOrder_ct S hS (by omega)) (by omega) ?_
    rintro _ (⟨h4, rfl⟩ | ⟨h4, rfl⟩)
    · refine ⟨_, rfl, ?_⟩
      refine callq rfl (isOrder_ct S hS (by omega)) (by omega) ?_
      rintro _ (⟨h5, rfl⟩ | ⟨h5, rfl⟩)
      · exact endq rfl (by rw [chk0 hL ⟨h4, hL.1 ▸ h5⟩])
      · exact endq rfl (by rw [chk3 hL (fun h => h5 (hL.1.symm ▸ h.2))])
    · exact endq rfl (by rw [chk3 hL (fun h => h4 h.1)])
  · rw [decide_eq_false h2]
    exact endq rfl (by rw [chk10 (fun h => h2 ⟨by have := h.2.1; omega, by have := h.2.2; omega⟩)])
end Go.PI
/- ROWS: kinds, and rows that do not fall into parts. -/
open Go.Proofs
namespace Go.PI
open IM
set_option maxRecDepth 10000
set_option maxHeartbeats 4000000
variable (S : FuncId → Option (List AV → Heap → Option (AV × Heap)))
/-- kinds are 0 or 1 -/
def KOK (ks : List Int) : Prop := ∀ k ∈ ks, k = 0 ∨ k = 1
open Classical in
noncomputable def chkK (ks : List Int) : Int := if 60 < ks.length then 8 else if KOK ks then 0 else 2
def KTo (ks : List Int) (i : Nat) : Prop := ∀ j k, j < i → ks[j]? = some k → k = 0 ∨ k = 1
theorem kto_next {ks : List Int} {i : Nat} {k : Int} (h : KTo ks i) (hk : ks[i]? = some k) (h2 : k = 0 ∨ k = 1) : KTo ks (i + 1) := fun j k' hj hk' => by
  by_cases hji : j = i
  · subst hji; rw [hk] at hk'; cases hk'; exact h2
  · exact h j k' (by omega) hk'
theorem kto_end {ks : List Int} {i : Nat} (h : KTo ks i) (hi : ks.length ≤ i) : KOK ks := fun k hk => by
  obtain ⟨j, hj⟩ := List.getElem?_of_mem hk
  exact h j k (by have := (List.getElem?_eq_some_iff.1 hj).1; omega) hj
theorem fn29 : ctx.fn 29 = some c29 := by kernel_rfl
theorem fn11 : ctx.fn 11 = some c11 := by kernel_rfl
theorem kinds_ct (hS : OldX S) {ks : List Int} : Ct (ctx.plus S) 29 [pIs ks] 0 fun r => r = pn (chkK ks) := by
  refine ct_of (hS 29 (by decide)) fn29 ?_
  refine ⟨fun h => ?_, fun h => ?_⟩
  · exact endq rfl (by unfold chkK; rw [if_pos (by omega)])
  refine ⟨fun m s => ∃ (i : Nat) (T : List PV), s = ⟨T, [], 0⟩ ∧ Gt T 21 [(8, pIs ks), (9, pn ks.length), (10, pn i)] ∧ m = ks.length - i ∧ i ≤ ks.length ∧ Hid (KTo ks i), ⟨_, ci ⟨0, _, rfl, ⟨rfl, rfl, rfl, rfl, trivial⟩, rfl, Nat.zero_le _, ⟨fun j k hj => by omega⟩⟩⟩, ?_⟩
  rintro _ s ⟨i, T, rfl, hT, rfl, hi, hn⟩
  obtain ⟨J, rfl⟩ := gt_open hT
  clear hT
  refine ⟨fun hlt => ?_, fun hge => ?_⟩
  · obtain ⟨e, he⟩ := xs_get (xs := ks) (i := i) (by omega)
    refine ⟨⟨⟨by omega, by omega⟩, len_map_le (by omega)⟩, ?_⟩
    refine ⟨_, ld (at_map he) (by show _ * 1 = i; omega), ?_⟩
    have go : (e = 0 ∨ e = 1) → KTo ks (i + 1) := kto_next hn.h he
    have bad : ¬ (e = 0 ∨ e = 1) → pn 2 = pn (chkK ks) := fun h2 => by
      unfold chkK; rw [if_neg (by omega), if_neg (fun h3 => h2 (h3 e (List.mem_of_getElem? he)))]
    have hg : Hid ((e = 0 ∨ e = 1) → KTo ks (i + 1)) := ⟨go⟩
    clear go
    refine ⟨fun h0 => ?_, fun h0 => ?_⟩
    · refine ⟨fun h1 => ?_, fun h1 => ?_⟩
      · exact endq rfl (bad (by omega))
      · refine ⟨⟨by omega, by omega⟩, ?_⟩
        exact ⟨_, by omega, ci ⟨i + 1, _, rfl, ⟨rfl, rfl, rfl, rfl, trivial⟩, rfl, by omega, ⟨hg.h (by omega)⟩⟩⟩
    · refine ⟨⟨by omega, by omega⟩, ?_⟩
      exact ⟨_, by omega, ci ⟨i + 1, _, rfl, ⟨rfl, rfl, rfl, rfl, trivial⟩, rfl, by omega, ⟨hg.h (by omega)⟩⟩⟩
  · exact endq rfl (by unfold chkK; rw [if_neg (by omega), if_pos (kto_end hn.h (by omega))])
theorem rkinds_ct (hS : OldX S) {ks : List Int} (hl : ks.length ≤ 1000000) : Ct (ctx.plus S) 11 [pIs ks] 0 fun r => r = pn (chkK ks) := by
  refine ct_of (hS 11 (by decide)) fn11 ?_
  refine ⟨fun h => ?_, fun h => ?_⟩
  · exact endq rfl (by unfold chkK; rw [if_pos (by omega)])
  refine ⟨fun m s => ∃ (i : Nat) (T : List PV), s = ⟨T, [], 0⟩ ∧ Gt T 19 [(0, pIs ks), (3, pn i)] ∧ m = ks.length - i ∧ i ≤ ks.length ∧ Hid (KTo ks i), ⟨_, ci ⟨0, _, rfl, ⟨rfl, rfl, rfl, trivial⟩, rfl, Nat.zero_le _, ⟨fun j k hj => by omega⟩⟩⟩, ?_⟩
  rintro _ s ⟨i, T, rfl, hT, rfl, hi, hn⟩
  obtain ⟨J, rfl⟩ := gt_open hT
  clear hT
  refine ⟨fun hlt => ?_, fun hge => ?_⟩
  · obtain ⟨e, he⟩ := xs_get (xs := ks) (i := i) (by omega)
    refine ⟨⟨⟨by omega, by omega⟩, len_map_le (by omega)⟩, ?_⟩
    refine ⟨_, ld (at_map he) (by show _ * 1 = i; omega), ?_⟩
    refine callq rfl (within10_ct S hS) (by omega) ?_
    rintro _ rfl
    by_cases h2 : 0 ≤ e ∧ e ≤ 1
    · rw [decide_eq_true h2]
      refine ⟨⟨by omega, by omega⟩, ?_⟩
      exact ⟨_, by omega, ci ⟨i + 1, _, rfl, ⟨rfl, rfl, rfl, trivial⟩, rfl, by omega, ⟨kto_next hn.h he (by omega)⟩⟩⟩
    · rw [decide_eq_false h2]
      exact endq rfl (by unfold chkK; rw [if_neg (by omega), if_neg (fun h3 => h2 (by have := h3 e (List.mem_of_getElem? he); omega))])
  · exact endq rfl (by unfold chkK; rw [if_neg (by omega), if_pos (kto_end hn.h (by omega))])
/-- how many letters of b it takes to contain the first i of t -/
def nd (t b : List Int) : Nat → Int
  | 0 => 0
  | i + 1 => max (nd t b i) (idx b (t.getD i 0) + 1)
def IrrP (t b : List Int) : Prop := ∀ i : Nat, 0 < i → i < t.length → nd t b i ≠ i
def IrrTo (t b : List Int) (n : Nat) : Prop := ∀ i : Nat, 0 < i → i < n → nd t b i ≠ i
theorem irr_next {t b : List Int} {i : Nat} (h : IrrTo t b i) (h2 : 0 < i → nd t b i ≠ i) : IrrTo t b (i + 1) := fun j h0 hj => by
  by_cases hji : j = i
  · subst hji; exact h2 h0
  · exact h j h0 (by omega)
theorem idx_le {xs : List Int} {x : Int} : -1 ≤ idx xs x ∧ idx xs x < xs.length := by
  unfold idx
  split
  · have := List.idxOf_lt_length_of_mem ‹x ∈ xs›; omega
  · omega
theorem nd_le {t b : List Int} : ∀ i, 0 ≤ nd t b i ∧ nd t b i ≤ b.length
  | 0 => ⟨Int.le_refl 0, by show (0 : Int) ≤ _; omega⟩
  | i + 1 => by
    have h := nd_le (t := t) (b := b) i
    have h2 := idx_le (xs := b) (x := t.getD i 0)
    show 0 ≤ max _ _ ∧ max _ _ ≤ _
    omega
theorem fn38 : ctx.fn 38 = some c38 := by kernel_rfl
theorem irr_ct (hS : OldX S) {t b : List Int} (l1 : t.length ≤ 12) (l2 : b.length ≤ 12) : Ct (ctx.plus S) 38 [pRo t b] 1 fun r => (IrrP t b ∧ r = .bool true) ∨ (¬ IrrP t b ∧ r = .bool false) := by
  refine ct_of (hS 38 (by decide)) fn38 ?_
  refine ⟨by omega, ?_⟩
  refine ⟨_, rfl, ?_⟩
  refine ⟨fun m s => ∃ (i : Nat) (T : List PV), s = ⟨T, [.live 24 [pIs t, pIs b]], 1⟩ ∧ Gt T 29 [(1, .optr 0 0), (3, pn (nd t b i)), (7, pIs t), (8, pn t.length), (9, pn i)] ∧ m = t.length - i ∧ i ≤ t.length ∧ Hid (IrrTo t b i), ⟨_, ci ⟨0, _, rfl, ⟨rfl, rfl, rfl, rfl, rfl, rfl, trivial⟩, rfl, Nat.zero_le _, ⟨fun j hj => by omega⟩⟩⟩, ?_⟩
  rintro _ s ⟨i, T, rfl, hT, rfl, hi, hn⟩
  obtain ⟨J, rfl⟩ := gt_open hT
  clear hT
  refine ⟨fun hlt => ?_, fun hge => ?_⟩
  · obtain ⟨e, he⟩ := xs_get (xs := t) (i := i) (by omega)
    refine ⟨⟨⟨by omega, by omega⟩, len_map_le (by omega)⟩, ?_⟩
    refine ⟨_, ld (at_map he) (by show _ * 1 = i; omega), ?_⟩
    have hd : t.getD i 0 = e := getD_of he
    have hnl := nd_le (t := t) (b := b) i
    have hil := idx_le (xs := b) (x := e)
    have hnx : max (nd t b i) (idx b e + 1) = nd t b (i + 1) := by show _ = max _ _; rw [hd]
    refine ⟨fun h0 => ?_, fun h0 => ?_⟩
    · refine ⟨fun h1 => ?_, fun h1 => ?_⟩
      · exact endq rfl (.inr ⟨fun h => h i (by omega) (by omega) (by omega), rfl⟩)
      · refine ⟨_, rfl, ?_⟩
        refine callq rfl (index_ct S hS (by omega)) (by omega) ?_
        rintro _ rfl
        refine ⟨⟨by omega, by omega⟩, ?_⟩
        refine ⟨⟨by omega, by omega⟩, ?_⟩
        exact ⟨_, by omega, ci ⟨i + 1, _, rfl, ⟨rfl, rfl, (by rw [← hnx]; rfl), rfl, rfl, rfl, trivial⟩, rfl, by omega, ⟨irr_next hn.h (fun _ => by omega)⟩⟩⟩
    · refine ⟨_, rfl, ?_⟩
      refine callq rfl (index_ct S hS (by omega)) (by omega) ?_
      rintro _ rfl
      refine ⟨⟨by omega, by omega⟩, ?_⟩
      refine ⟨⟨by omega, by omega⟩, ?_⟩
      exact ⟨_, by omega, ci ⟨i + 1, _, rfl, ⟨rfl, rfl, (by rw [← hnx]; rfl), rfl, rfl, rfl, trivial⟩, rfl, by omega, ⟨irr_next hn.h (fun h => by omega)⟩⟩⟩
  · have hin : i = t.length := by omega
    exact endq rfl (.inl ⟨by have := hn.h; rw [hin] at this; exact this, rfl⟩)
end Go.PI
/- ROWS: the reference's word for rows that do not fall into parts. -/
open Go.Proofs
namespace Go.PI
open IM
set_option maxRecDepth 10000
set_option maxHeartbeats 4000000
variable (S : FuncId → Option (List AV → Heap → Option (AV × Heap)))
/-- the first j letters of b are among the first k of t -/
def AllB (t b : List Int) (k j : Nat) : Prop := ∀ i, i < j → b.getD i 0 ∈ t.take k
theorem allB_next {t b : List Int} {k j : Nat} : AllB t b k (j + 1) ↔ AllB t b k j ∧ b.getD j 0 ∈ t.take k :=
  ⟨fun h => ⟨fun i hi => h i (by omega), h j (by omega)⟩, fun h i hi => by
    by_cases hij : i = j
    · rw [hij]; exact h.2
    · exact h.1 i (by omega)⟩
def IrrR (t b : List Int) : Prop := ∀ k : Nat, 1 ≤ k → k < t.length → ¬ AllB t b k k
def RTo (t b : List Int) (n : Nat) : Prop := ∀ k : Nat, 1 ≤ k → k < n → ¬ AllB t b k k
theorem rto_next {t b : List Int} {n : Nat} (h : RTo t b n) (h2 : ¬ AllB t b n n) : RTo t b (n + 1) := fun k h0 hk => by
  by_cases hkn : k = n
  · subst hkn; exact h2
  · exact h k h0 (by omega)
theorem take_pIs {t : List Int} {k : Nat} (h : k ≤ t.length) : pIs (t.take k) = .lst k ((t.take k).map pn) := by
  unfold pIs
  rw [List.length_take, Nat.min_eq_left h]
theorem fn32 : ctx.fn 32 = some c32 := by kernel_rfl
theorem rirr_ct (hS : OldX S) {t b : List Int} (l1 : t.length ≤ 12) (l2 : b.length = t.length) : Ct (ctx.plus S) 32 [pRo t b] 1 fun r => (IrrR t b ∧ r = .bool true) ∨ (¬ IrrR t b ∧ r = .bool false) := by
  refine ct_of (hS 32 (by decide)) fn32 ?_
  refine ⟨by omega, ?_⟩
  refine ⟨fun m s => ∃ (k : Nat) (T : List PV), s = ⟨T, [.live 24 [pIs t, pIs b]], 1⟩ ∧ Gt T 32 [(1, .optr 0 0), (3, pn k)] ∧ m = 13 - k ∧ (1 ≤ k ∧ k ≤ 13) ∧ Hid (RTo t b k), ⟨_, ci ⟨1, _, rfl, ⟨rfl, rfl, rfl, trivial⟩, rfl, by omega, ⟨fun j h hj => by omega⟩⟩⟩, ?_⟩
  rintro _ s ⟨k, T, rfl, hT, rfl, hk, hn⟩
  obtain ⟨J, rfl⟩ := gt_open hT
  clear hT
  refine ⟨_, rfl, ?_⟩
  refine ⟨fun hlt => ?_, fun hge => ?_⟩
  · refine ⟨fun m s => ∃ (j : Nat) (β : Bool) (T : List PV), s = ⟨T, [.live 24 [pIs t, pIs b]], 1⟩ ∧ Gt T 32 [(1, .optr 0 0), (3, pn k), (4, .bool β), (5, pn j)] ∧ m = k - j ∧ j ≤ k ∧ Hid (β = true ↔ AllB t b k j), ⟨_, ci ⟨0, true, _, rfl, ⟨rfl, rfl, rfl, rfl, rfl, trivial⟩, rfl, by omega, ⟨⟨fun _ i hi => by omega, fun _ => rfl⟩⟩⟩⟩, ?_⟩
    rintro _ s ⟨j, β, T, rfl, hT, rfl, hj, hb⟩
    obtain ⟨J2, rfl⟩ := gt_open hT
    clear hT
    refine ⟨fun hlt2 => ?_, fun hge2 => ?_⟩
    · refine ⟨by kernel_rfl, ?_⟩
      cases β with
      | false =>
        refine ⟨⟨by omega, by omega⟩, ?_⟩
        exact ⟨_, by omega, ci ⟨j + 1, false, _, rfl, ⟨rfl, rfl, rfl, rfl, rfl, trivial⟩, rfl, by omega, ⟨⟨fun h => (by cases h), fun h => hb.h.2 (allB_next.1 h).1⟩⟩⟩⟩
      | true =>
        refine ⟨_, rfl, rfl, ?_⟩
        refine ⟨by rw [List.length_map]; show _ = _ * 1; omega, ⟨by omega, by omega⟩, fun _ => rfl, (t.take k).map pn, ?_, ?_⟩
        · show ((t.map pn).drop (0 * 1)).take ((k - 0) * 1) = _
          rw [List.map_take]
          simp
        refine ⟨_, rfl, rfl, ?_⟩
        obtain ⟨e, he⟩ := xs_get (xs := b) (i := j) (by omega)
        refine ⟨⟨⟨by omega, by omega⟩, len_map_le (by omega)⟩, ?_⟩
        refine ⟨_, ld (at_map he) (by show _ * 1 = j; omega), rfl, ?_⟩
        have hc := has_ct S hS (xs := t.take k) (x := e) (by rw [List.length_take]; omega)
        rw [take_pIs (by omega)] at hc
        refine callq rfl hc (by omega) ?_
        rintro _ rfl
        have hd : b.getD j 0 = e := getD_of he
        by_cases hm : e ∈ t.take k
        · rw [decide_eq_true hm]
          refine ⟨⟨by omega, by omega⟩, ?_⟩
          exact ⟨_, by omega, ci ⟨j + 1, true, _, rfl, ⟨rfl, rfl, rfl, rfl, rfl, trivial⟩, rfl, by omega, ⟨⟨fun _ => allB_next.2 ⟨hb.h.1 rfl, by rw [hd]; exact hm⟩, fun _ => rfl⟩⟩⟩⟩
        · rw [decide_eq_false hm]
          refine ⟨⟨by omega, by omega⟩, ?_⟩
          exact ⟨_, by omega, ci ⟨j + 1, false, _, rfl, ⟨rfl, rfl, rfl, rfl, rfl, trivial⟩, rfl, by omega, ⟨⟨fun h => (by cases h), fun h => absurd (by rw [← hd]; exact (allB_next.1 h).2) hm⟩⟩⟩⟩
    · have hjk : j = k := by omega
      have hb2 := hb.h
      rw [hjk] at hb2
      cases β with
      | true => exact endq rfl (.inr ⟨fun h => h k (by omega) (by omega) (hb2.1 rfl), rfl⟩)
      | false =>
        refine ⟨⟨by omega, by omega⟩, ?_⟩
        exact ⟨_, by omega, ci ⟨k + 1, _, rfl, ⟨rfl, rfl, rfl, trivial⟩, rfl, by omega, ⟨rto_next hn.h (fun h => by cases hb2.2 h)⟩⟩⟩
  · exact endq rfl (.inl ⟨fun k' h1 h2 => hn.h k' h1 (by omega), rfl⟩)
end Go.PI
/- ROWS: both words for rows that do not fall into parts say the same. -/
open Go.Proofs
namespace Go.PI
open IM
theorem sub_back {a b : List Int} (hn : a.Nodup) (hs : a ⊆ b) (hl : b.length ≤ a.length) : b ⊆ a := fun y hy => by
  refine Classical.byContradiction fun hna => ?_
  have h1 : (y :: a).Nodup := List.nodup_cons.2 ⟨hna, hn⟩
  have h2 : (y :: a) ⊆ b := fun z hz => by
    rcases List.mem_cons.1 hz with rfl | hz
    · exact hy
    · exact hs hz
  have := List.Nodup.length_le_of_subset h1 h2
  simp only [List.length_cons] at this
  omega
/-- the letters 0 to n - 1 -/
def lts (n : Nat) : List Int := (List.range n).map Int.ofNat
theorem lts_nodup (n : Nat) : (lts n).Nodup := by
  unfold lts
  rw [List.nodup_iff_pairwise_ne, List.pairwise_map]
  exact (List.nodup_range (n := n)).imp fun h e => h (Int.ofNat.inj e)
theorem mem_lts {n : Nat} {x : Int} : x ∈ lts n ↔ ∃ c : Nat, c < n ∧ x = c := by
  unfold lts
  simp only [List.mem_map, List.mem_range]
  exact ⟨fun ⟨c, h, e⟩ => ⟨c, h, e.symm⟩, fun ⟨c, h, e⟩ => ⟨c, h, e.symm⟩⟩
theorem ord_sub {t : List Int} {n : Nat} (h : Ord t n) : lts n ⊆ t := fun x hx => by
  obtain ⟨c, hc, rfl⟩ := mem_lts.1 hx
  exact h c hc
theorem ord_mem {t : List Int} (h : Ord t t.length) {x : Int} (hx : x ∈ t) : ∃ c : Nat, c < t.length ∧ x = c :=
  mem_lts.1 (sub_back (lts_nodup _) (ord_sub h) (by simp [lts]) hx)
theorem ord_nodup {t : List Int} (h : Ord t t.length) : t.Nodup := by
  rw [List.nodup_iff_pairwise_ne, List.pairwise_iff_getElem]
  intro i j hi hj hij he
  have h1 : lts t.length ⊆ t.eraseIdx j := fun x hx => by
    obtain ⟨m, hm⟩ := List.getElem?_of_mem (ord_sub h hx)
    rw [List.mem_eraseIdx_iff_getElem?]
    by_cases hmj : m = j
    · subst hmj
      refine ⟨i, by omega, ?_⟩
      rw [List.getElem?_eq_getElem hi, he, ← List.getElem?_eq_getElem hj]
      exact hm
    · exact ⟨m, hmj, hm⟩
  have h2 := List.Nodup.length_le_of_subset (lts_nodup _) h1
  rw [List.length_eraseIdx_of_lt hj] at h2
  simp [lts] at h2
  omega
theorem idx_is {xs : List Int} {x : Int} (hm : x ∈ xs) : ∃ j : Nat, idx xs x = j ∧ xs[j]? = some x ∧ ∀ i, xs[i]? = some x → j ≤ i := by
  have hl : xs.idxOf x < xs.length := List.idxOf_lt_length_of_mem hm
  refine ⟨xs.idxOf x, if_pos hm, by rw [List.getElem?_eq_getElem hl, List.getElem_idxOf], fun i he => ?_⟩
  have hi := (List.getElem?_eq_some_iff.1 he)
  refine Nat.le_of_not_lt fun hlt => ?_
  have := List.not_of_lt_findIdx hlt
  rw [hi.2] at this
  simp at this
theorem mem_take {xs : List Int} {x : Int} {m : Nat} : x ∈ xs.take m ↔ ∃ i, i < m ∧ xs[i]? = some x := by
  rw [List.mem_iff_getElem?]
  constructor
  · rintro ⟨i, h⟩
    have hi := (List.getElem?_eq_some_iff.1 h).1
    rw [List.length_take] at hi
    rw [List.getElem?_take, if_pos (by omega)] at h
    exact ⟨i, by omega, h⟩
  · rintro ⟨i, h, h2⟩
    exact ⟨i, by rw [List.getElem?_take, if_pos h]; exact h2⟩
theorem idx_take {xs : List Int} {x : Int} (hm : x ∈ xs) {m : Nat} : idx xs x + 1 ≤ m ↔ x ∈ xs.take m := by
  obtain ⟨j, h1, h2, h3⟩ := idx_is hm
  rw [mem_take, h1]
  constructor
  · exact fun h => ⟨j, by omega, h2⟩
  · rintro ⟨i, hi, he⟩
    have := h3 i he
    omega
theorem nd_take {t b : List Int} (hs : t ⊆ b) {m : Nat} : ∀ {k : Nat}, k ≤ t.length → (nd t b k ≤ m ↔ t.take k ⊆ b.take m)
  | 0, _ => ⟨fun _ x hx => by simp at hx, fun _ => by show (0 : Int) ≤ m; omega⟩
  | k + 1, hk => by
    have ih := nd_take hs (m := m) (k := k) (by omega)
    obtain ⟨e, he⟩ := xs_get (xs := t) (i := k) (by omega)
    have h2 := idx_take (hs (List.mem_of_getElem? he)) (m := m)
    have hd : t.getD k 0 = e := getD_of he
    rw [take_snoc he]
    show max (nd t b k) (idx b (t.getD k 0) + 1) ≤ m ↔ _
    rw [hd, Int.max_le, ih, h2]
    constructor
    · rintro ⟨h3, h4⟩ x hx
      rcases List.mem_append.1 hx with hx | hx
      · exact h3 hx
      · rw [List.mem_singleton.1 hx]; exact h4
    · exact fun h => ⟨fun x hx => h (List.mem_append_left _ hx), h (by simp)⟩
theorem allB_sub {t b : List Int} {k : Nat} (hk : k ≤ b.length) : AllB t b k k ↔ b.take k ⊆ t.take k := by
  constructor
  · intro h x hx
    obtain ⟨i, hi, he⟩ := mem_take.1 hx
    have := h i hi
    rwa [getD_of he] at this
  · intro h i hi
    obtain ⟨e, he⟩ := xs_get (xs := b) (i := i) (by omega)
    rw [getD_of he]
    exact h (mem_take.2 ⟨i, hi, he⟩)
theorem irr_iff {t b : List Int} (hL : LenOK t b) (hO : OrdOK t b) : IrrP t b ↔ IrrR t b := by
  have hob : Ord b b.length := hL.1.symm ▸ hO.2
  have tn := ord_nodup hO.1
  have bn := ord_nodup hob
  have tb : t ⊆ b := fun x hx => by
    obtain ⟨c, hc, rfl⟩ := ord_mem hO.1 hx
    exact hO.2 c hc
  have key : ∀ k : Nat, 0 < k → k < t.length → (nd t b k = k ↔ AllB t b k k) := fun k h0 hk => by
    have hbl := hL.1
    have lt : (t.take k).length = k := by rw [List.length_take]; omega
    have lb : (b.take k).length = k := by rw [List.length_take]; omega
    have tkn : (t.take k).Nodup := tn.sublist (List.take_sublist _ _)
    have bkn : (b.take k).Nodup := bn.sublist (List.take_sublist _ _)
    rw [allB_sub (by omega)]
    constructor
    · exact fun h => sub_back tkn ((nd_take tb (by omega)).1 (by omega)) (by omega)
    · intro h
      have h1 := (nd_take tb (m := k) (k := k) (by omega)).2 (sub_back bkn h (by omega))
      have h2 : ¬ nd t b k ≤ (k - 1 : Nat) := fun h3 => by
        have h4 := List.Nodup.length_le_of_subset tkn ((nd_take tb (by omega)).1 h3)
        rw [lt, List.length_take] at h4
        omega
      omega
  exact ⟨fun h k h0 hk ha => h k (by omega) hk ((key k (by omega) hk).2 ha), fun h k h0 hk he => h k (by omega) hk ((key k h0 hk).1 he)⟩
end Go.PI
/- ROWS: the word for rows, of the program and of the reference. -/
open Go.Proofs
namespace Go.PI
open IM
set_option maxRecDepth 10000
set_option maxHeartbeats 4000000
variable (S : FuncId → Option (List AV → Heap → Option (AV × Heap)))
theorem chk_cases (t b : List Int) : (chkR t b = 10 ∧ ¬ LenOK t b) ∨ (chkR t b = 3 ∧ LenOK t b ∧ ¬ OrdOK t b) ∨ (chkR t b = 0 ∧ LenOK t b ∧ OrdOK t b) := by
  by_cases h : LenOK t b
  · by_cases h2 : OrdOK t b
    · exact .inr (.inr ⟨chk0 h h2, h, h2⟩)
    · exact .inr (.inl ⟨chk3 h h2, h, h2⟩)
  · exact .inl ⟨chk10 h, h⟩
open Classical in
noncomputable def chkI (t b : List Int) : Int := if chkR t b = 0 then (if IrrP t b then 0 else 3) else chkR t b
theorem chkI_bad {t b : List Int} (h : chkR t b ≠ 0) : chkI t b = chkR t b := if_neg h
theorem chkI_3 {t b : List Int} (h : chkR t b = 0) (h2 : ¬ IrrP t b) : chkI t b = 3 := by unfold chkI; rw [if_pos h, if_neg h2]
theorem chkI_0 {t b : List Int} (h : chkR t b = 0) (h2 : IrrP t b) : chkI t b = 0 := by unfold chkI; rw [if_pos h, if_pos h2]
theorem chkI_cases (t b : List Int) : (chkI t b ≠ 0) ∨ (chkI t b = 0 ∧ LenOK t b ∧ OrdOK t b ∧ IrrP t b) := by
  rcases chk_cases t b with ⟨h, -⟩ | ⟨h, -, -⟩ | ⟨h, h1, h2⟩
  · exact .inl (by rw [chkI_bad (by omega)]; omega)
  · exact .inl (by rw [chkI_bad (by omega)]; omega)
  · by_cases h3 : IrrP t b
    · exact .inr ⟨chkI_0 h h3, h1, h2, h3⟩
    · exact .inl (by rw [chkI_3 h h3]; decide)
theorem fn28 : ctx.fn 28 = some c28 := by kernel_rfl
theorem chkIrr_ct (hS : OldX S) {t b : List Int} (l1 : t.length ≤ 12) (l2 : b.length ≤ 12) : Ct (ctx.plus S) 28 [pRo t b] 3 fun r => r = pn (chkI t b) := by
  refine ct_of (hS 28 (by decide)) fn28 ?_
  refine ⟨by omega, ?_⟩
  refine ⟨_, rfl, ?_⟩
  refine callq rfl (rows_ct S hS l1 l2) (by omega) ?_
  rintro _ rfl
  obtain ⟨e, he⟩ : ∃ e, chkR t b = e := ⟨_, rfl⟩
  rw [he]
  refine ⟨fun h0 => ?_, fun h0 => ?_⟩
  · refine ⟨_, rfl, ?_⟩
    refine callq rfl (irr_ct S hS l1 l2) (by omega) ?_
    rintro _ (⟨h, rfl⟩ | ⟨h, rfl⟩)
    · exact endq rfl (by rw [chkI_0 (by omega) h, h0])
    · exact endq rfl (by rw [chkI_3 (by omega) h])
  · exact endq rfl (by rw [chkI_bad (by omega), he])
theorem fn9 : ctx.fn 9 = some c9 := by kernel_rfl
theorem rchkIrr_ct (hS : OldX S) {t b : List Int} (l1 : t.length ≤ 12) (l2 : b.length ≤ 12) : Ct (ctx.plus S) 9 [pRo t b] 3 fun r => r = pn (chkI t b) := by
  refine ct_of (hS 9 (by decide)) fn9 ?_
  refine ⟨by omega, ?_⟩
  refine ⟨_, rfl, ?_⟩
  refine callq rfl (rrows_ct S hS l1 l2) (by omega) ?_
  rintro _ rfl
  obtain ⟨e, he⟩ : ∃ e, chkR t b = e := ⟨_, rfl⟩
  rw [he]
  refine ⟨fun h0 => ?_, fun h0 => ?_⟩
  · exact endq rfl (by rw [chkI_bad (by omega), he])
  · rcases chk_cases t b with ⟨h, -⟩ | ⟨h, -, -⟩ | ⟨h, hL, hO⟩
    · exact absurd h (by omega)
    · exact absurd h (by omega)
    refine ⟨_, rfl, ?_⟩
    refine callq rfl (rirr_ct S hS l1 hL.1) (by omega) ?_
    rintro _ (⟨h2, rfl⟩ | ⟨h2, rfl⟩)
    · exact endq rfl (by rw [chkI_0 h ((irr_iff hL hO).2 h2)])
    · exact endq rfl (by rw [chkI_3 h (fun h3 => h2 ((irr_iff hL hO).1 h3))])
theorem fn17 : ctx.fn 17 = some c17 := by kernel_rfl
theorem irreducible_ct (hS : OldX S) {t b : List Int} (l1 : t.length ≤ 12) (l2 : b.length ≤ 12) (hi : chkI t b = 0) : Ct (ctx.plus S) 17 [pRo t b] 3 fun r => r = .tup [.bool true, pn 0] := by
  rcases chkI_cases t b with h | ⟨-, hL, hO, hI⟩
  · exact absurd hi h
  refine ct_of (hS 17 (by decide)) fn17 ?_
  refine ⟨by omega, ?_⟩
  refine ⟨_, rfl, ?_⟩
  refine callq rfl (rows_ct S hS l1 l2) (by omega) ?_
  rintro _ rfl
  rw [chk0 hL hO]
  refine ⟨fun h0 => absurd rfl h0, fun h0 => ?_⟩
  refine ⟨_, rfl, ?_⟩
  refine callq rfl (irr_ct S hS l1 l2) (by omega) ?_
  rintro _ (⟨h, rfl⟩ | ⟨h, rfl⟩)
  · exact endsq rfl rfl
  · exact absurd hI h
end Go.PI
/- COPIES, and lists put together. -/
open Go.Proofs
namespace Go.PI
open IM
set_option maxRecDepth 10000
set_option maxHeartbeats 4000000
variable (S : FuncId → Option (List AV → Heap → Option (AV × Heap)))
theorem fn34 : ctx.fn 34 = some c34 := by kernel_rfl
theorem fn82 : ctx.fn 82 = some c82 := by kernel_rfl
theorem copy_cm (hS : OldX S) {xs : List Int} {σ : List StB} (hl : xs.length ≤ 1000000) : Cm (ctx.plus S) 34 [pIs xs] σ 3 fun r σ' => Wrt σ σ' r xs := by
  refine cm_of Opn.no (hS 34 (by decide)) fn34 fun c k0 hc => ?_
  refine ⟨by omega, part0 ⟨[], rfl, ?_⟩⟩
  have hpn : pones (xs.map pn) = true := pones_pn _
  refine ⟨⟨by rw [List.length_map]; show _ = _ * 1; omega, ⟨by show xs.length ≤ 2 ^ 30; omega, hpn⟩, by decide, fun h => ?_, fun h => ⟨by omega, 3, [], _, push_cont, by decide, rfl, ?_⟩⟩⟩
  · have h0 : xs = [] := List.eq_nil_of_length_eq_zero (by omega)
    subst h0
    refine ⟨3, [], _, push_get, by simp, rfl, ?_⟩
    refine endm [] (by dsimp only; omega) ?_
    exact ⟨σ.length, .inl rfl, by rw [push_set, push_get]; rfl, Nat.le_refl _, fun i b hb => by rw [push_set, List.getElem?_append_left (List.getElem?_eq_some_iff.1 hb).1]; exact hb⟩
  · refine endm [] (by dsimp only; omega) ?_
    exact ⟨σ.length + 1, .inr (by rw [List.length_append, Nat.zero_add]; rfl), push_at (by simp), Nat.le_succ _, fun i b hb => by
        rw [List.getElem?_append_left (by simp; have := (List.getElem?_eq_some_iff.1 hb).1; omega), List.getElem?_append_left (List.getElem?_eq_some_iff.1 hb).1]
        exact hb⟩
theorem copy_ct (hS : OldX S) {xs : List Int} (hl : xs.length ≤ 1000000) : Ct (ctx.plus S) 34 [pIs xs] 3 fun r => r = pIs xs := (copy_cm S hS hl).ct fun _ _ h => h.fz
theorem clone_cm (hS : OldX S) {xs : List Int} {σ : List StB} (hl : xs.length ≤ 1000000) (h0 : xs ≠ []) : Cm (ctx.plus S) 82 [pIs xs] σ 3 fun r σ' => Wrt σ σ' r xs := by
  have hne : xs.length ≠ 0 := fun h => h0 (List.eq_nil_of_length_eq_zero h)
  refine cm_of Opn.no (hS 82 (by decide)) fn82 fun c k0 hc => ?_
  refine ⟨hne, ?_⟩
  refine ⟨by omega, part0 ⟨[], rfl, ?_⟩⟩
  have hpn : pones (xs.map pn) = true := pones_pn _
  refine ⟨⟨by rw [List.length_map]; show _ = _ * 1; omega, ⟨by show xs.length ≤ 2 ^ 30; omega, hpn⟩, by decide, fun h => absurd h (by omega), fun h => ⟨by omega, 3, [], _, push_cont, by decide, rfl, ?_⟩⟩⟩
  refine endm [] (by dsimp only; omega) ?_
  exact ⟨σ.length + 1, .inr (by rw [List.length_append, Nat.zero_add]; rfl), push_at (by simp), Nat.le_succ _, fun i b hb => by
      rw [List.getElem?_append_left (by simp; have := (List.getElem?_eq_some_iff.1 hb).1; omega), List.getElem?_append_left (List.getElem?_eq_some_iff.1 hb).1]
      exact hb⟩
theorem clone_ct (hS : OldX S) {xs : List Int} (hl : xs.length ≤ 1000000) (h0 : xs ≠ []) : Ct (ctx.plus S) 82 [pIs xs] 3 fun r => r = pIs xs := (clone_cm S hS hl h0).ct fun _ _ h => h.fz
theorem fn133 : ctx.fn 133 = some c133 := by kernel_rfl
theorem grow_cm (hS : OldX S) {n : Int} {σ : List StB} (h0 : 0 < n) (hn : n ≤ 1000000) : Cm (ctx.plus S) 133 [.nils, pn n] σ 1 fun r σ' => r = .ownu σ.length 0 1 ∧ ∃ cs, σ' = σ ++ [.live 3 cs] := by
  refine cm_of Opn.no (hS 133 (by decide)) fn133 fun c k0 hc => ?_
  refine ⟨fun h => absurd h (by omega), fun _ => ?_⟩
  refine ⟨⟨by omega, by omega⟩, ?_⟩
  refine ⟨⟨by omega, by omega⟩, ?_⟩
  refine ⟨fun _ => ?_, fun h => absurd h (by omega)⟩
  refine ⟨⟨by omega, by omega⟩, ?_⟩
  refine ⟨⟨⟨⟨by omega, by omega⟩, by decide, by decide, by decide, by omega⟩, _, rfl, ?_⟩⟩
  refine ⟨⟨by omega, by omega⟩, ?_⟩
  refine endm [] (by dsimp only; omega) ?_
  exact ⟨rfl, _, rfl⟩
end Go.PI
/- LISTS PUT TOGETHER. -/
open Go.Proofs
namespace Go.PI
open IM
set_option maxRecDepth 10000
set_option maxHeartbeats 4000000
variable (S : FuncId → Option (List AV → Heap → Option (AV × Heap)))
theorem fn107 : ctx.fn 107 = some c107 := by kernel_rfl
theorem flat_next {L : List (List Int)} {i : Nat} {x : List Int} (h : L[i]? = some x) : (L.take (i + 1)).flatten = (L.take i).flatten ++ x := by
  rw [List.take_add_one, h]
  simp
theorem flat_len {L : List (List Int)} (hx : ∀ x ∈ L, x.length ≤ 1000) : ∀ i, (L.take i).flatten.length ≤ 1000 * i
  | 0 => by simp
  | i + 1 => by
    have ih := flat_len hx i
    cases h : L[i]? with
    | none => rw [List.take_add_one, h]; simp only [Option.toList_none, List.append_nil]; omega
    | some x =>
      have := hx x (List.mem_of_getElem? h)
      rw [flat_next h, List.length_append]
      omega
theorem concat_ct (hS : OldX S) {L : List (List Int)} (hL : L.length ≤ 3) (hx : ∀ x ∈ L, x.length ≤ 1000) (h0 : 0 < L.flatten.length) : Ct (ctx.plus S) 107 [pM L] 5 fun r => r = pIs L.flatten := by
  have hfl := flat_len hx
  refine ct_of (hS 107 (by decide)) fn107 ?_
  refine ⟨fun m s => ∃ (i : Nat) (T : List PV), s = ⟨T, [], 0⟩ ∧ Gt T 36 [(0, pM L), (3, pn (L.take i).flatten.length), (9, pM L), (10, pn L.length), (11, pn i)] ∧ m = L.length - i ∧ i ≤ L.length, ⟨_, ci ⟨0, _, rfl, ⟨rfl, rfl, rfl, rfl, rfl, rfl, trivial⟩, rfl, Nat.zero_le _⟩⟩, ?_⟩
  rintro _ s ⟨i, T, rfl, hT, rfl, hi⟩
  obtain ⟨J, rfl⟩ := gt_open hT
  clear hT
  refine ⟨fun hlt => ?_, fun hge => ?_⟩
  · obtain ⟨x, hxi⟩ := xs_getM (xs := L) (i := i) (by omega)
    have hxl := hx x (List.mem_of_getElem? hxi)
    have hf := hfl i
    refine ⟨⟨⟨by omega, by omega⟩, len_map_le (by omega)⟩, ?_⟩
    refine ⟨_, ld (at_map hxi) (by show _ * 1 = i; omega), ?_⟩
    refine ⟨⟨by omega, by omega⟩, ?_⟩
    refine ⟨fun h => absurd h (by omega), fun _ => ?_⟩
    refine ⟨⟨by omega, by omega⟩, ?_⟩
    exact ⟨_, by omega, ci ⟨i + 1, _, rfl, ⟨rfl, rfl, (by rw [flat_next hxi, List.length_append]; rfl), rfl, rfl, rfl, trivial⟩, rfl, by omega⟩⟩
  have hil : i = L.length := by omega
  subst hil
  have hfn := hfl L.length
  rw [List.take_length] at hfn ⊢
  refine callm (grow_cm S hS (n := L.flatten.length) (by omega) (by omega)) (by omega) ?_
  rintro _ _ ⟨rfl, cs, rfl⟩
  clear hi hge
  refine ⟨fun m s => ∃ (i j k : Nat) (σ : List StB) (T : List PV) (cs : List PV), s = ⟨T, σ, k⟩ ∧ Gt T 36 [(6, .ownu j (L.take i).flatten.length 1), (25, pM L), (26, pn L.length), (27, pn i)] ∧ m = L.length - i ∧ i ≤ L.length ∧ k ≤ 1 + i ∧ σ[j]? = some (.live 3 cs) ∧ (L.take i).flatten.length ≤ cs.length ∧ cs.take (L.take i).flatten.length = (L.take i).flatten.map pn, ⟨_, ci ⟨0, 0, _, _, _, cs, rfl, ⟨rfl, rfl, rfl, rfl, rfl, trivial⟩, rfl, Nat.zero_le _, Nat.le_refl _, rfl, Nat.zero_le _, rfl⟩⟩, ?_⟩
  rintro _ s ⟨i, j, k, σ, T, cs, rfl, hT, rfl, hi, hk, hj, hcl, hct⟩
  obtain ⟨J2, rfl⟩ := gt_open hT
  clear hT
  have hf := hfl i
  refine ⟨fun hlt => ?_, fun hge => ?_⟩
  · obtain ⟨x, hxi⟩ := xs_getM (xs := L) (i := i) (by omega)
    have hxl := hx x (List.mem_of_getElem? hxi)
    refine ⟨⟨⟨by omega, by omega⟩, len_map_le (by omega)⟩, ?_⟩
    refine ⟨_, ld (at_map hxi) (by show _ * 1 = i; omega), ?_⟩
    have hpn : pones (x.map pn) = true := pones_pn _
    refine ⟨⟨by rw [List.length_map]; show _ = _ * 1; omega, ⟨by show x.length ≤ 2 ^ 30; omega, hpn⟩, ⟨by omega, rfl, by omega⟩, cs, _, hj, by show _ * 1 ≤ _; omega, rfl, ?_⟩⟩
    refine ⟨⟨by omega, by omega⟩, ?_⟩
    have he : cs.take ((L.take i).flatten.length * 1) ++ x.map pn = (L.take (i + 1)).flatten.map pn := by
      rw [flat_next hxi, Nat.mul_one, hct, List.map_append]
    refine ⟨_, by omega, ci ⟨i + 1, σ.length, k + 1, _, _, (L.take (i + 1)).flatten.map pn, rfl, ⟨rfl, (by rw [flat_next hxi, List.length_append]; rfl), rfl, rfl, rfl, trivial⟩, rfl, by omega, by omega, ?_, by rw [List.length_map]; exact Nat.le_refl _, by rw [List.take_of_length_le (by rw [List.length_map]; exact Nat.le_refl _)]⟩⟩
    rw [← he]
    exact push_at (by simp)
  · have hil : i = L.length := by omega
    subst hil
    rw [List.take_length] at hct hcl ⊢
    exact ⟨⟨[], 3, _, _, contOf_live hj, ⟨by omega, fun _ => rfl⟩, by rw [Nat.mul_one, hct], rfl⟩⟩
end Go.PI
/- A LETTER TAKEN OUT AND PUT BEHIND ANOTHER. -/
open Go.Proofs
namespace Go.PI
open IM
set_option maxRecDepth 10000
set_option maxHeartbeats 4000000
variable (S : FuncId → Option (List AV → Heap → Option (AV × Heap)))
def mv1 (a b e : Int) : List Int := (if e = a then [] else [e]) ++ (if e = b then [a] else [])
def mvR (l : List Int) (a b : Int) : List Int := (l.map (mv1 a b)).flatten
theorem mv_next {l : List Int} {a b e : Int} {i : Nat} (h : l[i]? = some e) : mvR (l.take (i + 1)) a b = mvR (l.take i) a b ++ mv1 a b e := by
  unfold mvR
  rw [take_snoc h]
  simp
theorem mv1_len (a b e : Int) : (mv1 a b e).length ≤ 2 := by
  unfold mv1
  split <;> split <;> simp
theorem mv_len {l : List Int} {a b : Int} : ∀ i, (mvR (l.take i) a b).length ≤ 2 * i
  | 0 => by simp [mvR]
  | i + 1 => by
    have ih := mv_len (l := l) (a := a) (b := b) i
    cases h : l[i]? with
    | none => rw [List.take_add_one, h]; simp only [Option.toList_none, List.append_nil]; omega
    | some e =>
      have := mv1_len a b e
      rw [mv_next h, List.length_append]
      omega
theorem fn35 : ctx.fn 35 = some c35 := by kernel_rfl
theorem rmoved_ct (hS : OldX S) {l : List Int} {a b : Int} (hl : l.length ≤ 12) : Ct (ctx.plus S) 35 [pIs l, pn a, pn b] 60 fun r => r = pIs (mvR l a b) := by
  refine ct_of (hS 35 (by decide)) fn35 ?_
  refine ⟨fun m s => ∃ (i k : Nat) (v : PV) (σ : List StB) (T : List PV), s = ⟨T, σ, k⟩ ∧ Gt T 39 [(0, pIs l), (1, pn a), (2, pn b), (7, v), (8, pn i)] ∧ m = l.length - i ∧ i ≤ l.length ∧ k ≤ 4 * i ∧ Hid (Gr pn 3 v σ (mvR (l.take i) a b)), ⟨_, ci ⟨0, 0, .nils, [], _, rfl, ⟨rfl, rfl, rfl, rfl, rfl, rfl, trivial⟩, rfl, Nat.zero_le _, Nat.le_refl _, ⟨.nil⟩⟩⟩, ?_⟩
  rintro _ s ⟨i, k, v, σ, T, rfl, hT, rfl, hi, hk, hg⟩
  obtain ⟨J, rfl⟩ := gt_open hT
  clear hT
  have hml := mv_len (l := l) (a := a) (b := b) i
  refine ⟨fun hlt => ?_, fun hge => ?_⟩
  · obtain ⟨e, he⟩ := xs_get (xs := l) (i := i) (by omega)
    have hnx := mv_next (a := a) (b := b) he
    have fin : ∀ (k' : Nat) (v' : PV) (σ' : List StB) (T : List PV) (Xs : List Int), k' ≤ 4 * i + 4 → Gt T 39 [(0, pIs l), (1, pn a), (2, pn b), (7, v'), (8, pn ((i + 1 : Nat)))] → Gr pn 3 v' σ' Xs → Xs = mvR (l.take (i + 1)) a b →
        CI (fun m s => ∃ (i k : Nat) (v : PV) (σ : List StB) (T : List PV), s = ⟨T, σ, k⟩ ∧ Gt T 39 [(0, pIs l), (1, pn a), (2, pn b), (7, v), (8, pn i)] ∧ m = l.length - i ∧ i ≤ l.length ∧ k ≤ 4 * i ∧ Hid (Gr pn 3 v σ (mvR (l.take i) a b))) (l.length - (i + 1)) ⟨T, σ', k'⟩ := fun k' v' σ' T Xs h1 h2 h3 h4 =>
      ci ⟨i + 1, k', v', σ', T, rfl, h2, rfl, by omega, by omega, ⟨h4 ▸ h3⟩⟩
    refine ⟨⟨⟨by omega, by omega⟩, len_map_le (by omega)⟩, ?_⟩
    refine ⟨_, ld (at_map he) (by show _ * 1 = i; omega), ?_⟩
    refine ⟨fun hea => ?_, fun hea => ?_⟩
    · refine ⟨⟨⟨by omega, by omega⟩, len_map_le (by omega)⟩, ?_⟩
      refine ⟨_, ld (at_map he) (by show _ * 1 = i; omega), ?_⟩
      refine ⟨by omega, part1 fzI ⟨[pn e], rfl, ?_⟩⟩
      refine appG (f := pn) (e := 3) (y := e) hg.h.push push_cont rfl rfl rfl rfl (by kernel_rfl) rfl rfl (by omega) (by omega) fun v' σ' hv' _ _ => ?_
      refine ⟨⟨⟨by omega, by omega⟩, len_map_le (by omega)⟩, ?_⟩
      refine ⟨_, ld (at_map he) (by show _ * 1 = i; omega), ?_⟩
      refine ⟨fun heb => ?_, fun heb => ?_⟩
      · refine ⟨by omega, part1 fzI ⟨[pn a], rfl, ?_⟩⟩
        refine appG (f := pn) (e := 3) (y := a) hv'.push push_cont rfl rfl rfl rfl (by kernel_rfl) rfl rfl (by rw [List.length_append]; simp only [List.length_singleton]; omega) (by omega) fun v2 σ2 hv2 _ _ => ?_
        refine ⟨⟨by omega, by omega⟩, ?_⟩
        refine ⟨_, by omega, fin _ v2 σ2 _ _ (by omega) ⟨rfl, rfl, rfl, rfl, rfl, rfl, trivial⟩ hv2 ?_⟩
        rw [hnx]; unfold mv1; rw [if_neg hea, if_pos heb]; simp
      · refine ⟨⟨by omega, by omega⟩, ?_⟩
        refine ⟨_, by omega, fin _ v' σ' _ _ (by omega) ⟨rfl, rfl, rfl, rfl, rfl, rfl, trivial⟩ hv' ?_⟩
        rw [hnx]; unfold mv1; rw [if_neg hea, if_neg heb]; simp
    · refine ⟨⟨⟨by omega, by omega⟩, len_map_le (by omega)⟩, ?_⟩
      refine ⟨_, ld (at_map he) (by show _ * 1 = i; omega), ?_⟩
      refine ⟨fun heb => ?_, fun heb => ?_⟩
      · refine ⟨by omega, part1 fzI ⟨[pn a], rfl, ?_⟩⟩
        refine appG (f := pn) (e := 3) (y := a) hg.h.push push_cont rfl rfl rfl rfl (by kernel_rfl) rfl rfl (by omega) (by omega) fun v2 σ2 hv2 _ _ => ?_
        refine ⟨⟨by omega, by omega⟩, ?_⟩
        refine ⟨_, by omega, fin _ v2 σ2 _ _ (by omega) ⟨rfl, rfl, rfl, rfl, rfl, rfl, trivial⟩ hv2 ?_⟩
        rw [hnx]; unfold mv1; rw [if_pos (by omega), if_pos heb]; simp
      · refine ⟨⟨by omega, by omega⟩, ?_⟩
        refine ⟨_, by omega, fin _ v σ _ _ (by omega) ⟨rfl, rfl, rfl, rfl, rfl, rfl, trivial⟩ hg.h ?_⟩
        rw [hnx]; unfold mv1; rw [if_pos (by omega), if_neg heb]; simp
  · have hil : i = l.length := by omega
    subst hil
    have := hg.h
    rw [List.take_length] at this
    obtain ⟨σ', hf⟩ := this.fz
    exact endf hf rfl
theorem fn83 : ctx.fn 83 = some c83 := by kernel_rfl
theorem take_is {t : List Int} {k : Nat} (h : k ≤ t.length) : PV.lst (k - 0) ((t.take k).map pn) = pIs (t.take k) := (take_pIs h).symm
theorem putBehind_ct (hS : OldX S) {l : List Int} {a : Int} {i : Nat} (hl : 1 ≤ l.length ∧ l.length ≤ 12) (hi : idx l a = i) (hil : i + 1 ≤ l.length - 1) :
    Ct (ctx.plus S) 83 [pIs l, pn a] 60 fun r => r = pIs (l.take (i + 1) ++ l.drop (l.length - 1) ++ (l.take (l.length - 1)).drop (i + 1)) := by
  refine ct_of (hS 83 (by decide)) fn83 ?_
  refine ⟨⟨by omega, by omega⟩, ?_⟩
  refine callq rfl (index_ct S hS (by omega)) (by omega) ?_
  rintro _ rfl
  rw [hi]
  refine ⟨⟨by omega, by omega⟩, ?_⟩
  refine ⟨by kernel_rfl, ?_⟩
  have hlm : (l.map pn).length = l.length * 1 := by rw [List.length_map, Nat.mul_one]
  have e1 : ((i : Int) + 1).toNat = i + 1 := by omega
  have e2 : ((l.length : Int) - 1).toNat = l.length - 1 := by omega
  refine ⟨hlm, ⟨by omega, by omega⟩, fun _ => rfl, (l.take (i + 1)).map pn, ?_, ?_⟩
  · show ((l.map pn).drop (0 * 1)).take ((((i : Int) + 1).toNat - 0) * 1) = _
    rw [e1, List.map_take]
    simp
  refine ⟨hlm, ⟨by omega, by omega⟩, fun _ => rfl, (l.drop (l.length - 1)).map pn, ?_, ?_⟩
  · show ((l.map pn).drop (((l.length : Int) - 1).toNat * 1)).take ((l.length - ((l.length : Int) - 1).toNat) * 1) = _
    rw [e2, Nat.mul_one, Nat.mul_one, ← List.map_drop, List.take_of_length_le (by simp)]
  refine ⟨hlm, ⟨by omega, by omega⟩, ⟨by omega, by omega⟩, fun _ => rfl, ((l.take (l.length - 1)).drop (i + 1)).map pn, ?_, ?_⟩
  · show ((l.map pn).drop (((i : Int) + 1).toNat * 1)).take ((((l.length : Int) - 1).toNat - ((i : Int) + 1).toNat) * 1) = _
    rw [e1, e2, Nat.mul_one, Nat.mul_one, List.drop_take, ← List.map_drop, List.map_take]
  refine ⟨by omega, part3 fzL fzL fzL ⟨_, rfl, ?_⟩⟩
  have hfl : [l.take (i + 1), l.drop (l.length - 1), (l.take (l.length - 1)).drop (i + 1)].flatten = l.take (i + 1) ++ l.drop (l.length - 1) ++ (l.take (l.length - 1)).drop (i + 1) := by simp
  have hc := concat_ct S hS (L := [l.take (i + 1), l.drop (l.length - 1), (l.take (l.length - 1)).drop (i + 1)]) (Nat.le_refl _) (fun x hx => by
    simp only [List.mem_cons, List.not_mem_nil, or_false] at hx
    rcases hx with rfl | rfl | rfl <;> simp <;> omega) (by rw [hfl]; simp; omega)
  rw [hfl] at hc
  have hq : pM [l.take (i + 1), l.drop (l.length - 1), (l.take (l.length - 1)).drop (i + 1)] = .lst 3 [.lst (((i : Int) + 1).toNat - 0) ((l.take (i + 1)).map pn), .lst (l.length - ((l.length : Int) - 1).toNat) ((l.drop (l.length - 1)).map pn), .lst (((l.length : Int) - 1).toNat - ((i : Int) + 1).toNat) (((l.take (l.length - 1)).drop (i + 1)).map pn)] := by
    have l1 : (l.take (i + 1)).length = ((i : Int) + 1).toNat - 0 := by rw [List.length_take, e1]; omega
    have l2 : (l.drop (l.length - 1)).length = l.length - ((l.length : Int) - 1).toNat := by rw [List.length_drop, e2]
    have l3 : ((l.take (l.length - 1)).drop (i + 1)).length = ((l.length : Int) - 1).toNat - ((i : Int) + 1).toNat := by rw [List.length_drop, List.length_take, e1, e2]; omega
    unfold pM
    simp only [List.map_cons, List.map_nil, pIs, l1, l2, l3, List.length_cons, List.length_nil]
  rw [hq] at hc
  refine cal1 (fz_own (push_cont (σ0 := [])) (Nat.le_refl 3) (Nat.le_refl 3) rfl) hc (by omega) ?_
  rintro _ rfl
  exact endq rfl rfl
end Go.PI
/- A STEP: the program's. -/
open Go.Proofs
namespace Go.PI
open IM
set_option maxRecDepth 10000
set_option maxHeartbeats 4000000
variable (S : FuncId → Option (List AV → Heap → Option (AV × Heap)))
theorem fn55 : ctx.fn 55 = some c55 := by kernel_rfl
theorem cloned_ct (hS : OldX S) {t b : List Int} (lt : t.length ≤ 12) (lb : b.length ≤ 12) (ht : t ≠ []) (hb : b ≠ []) : Ct (ctx.plus S) 55 [pRo t b] 10 fun r => r = pRo t b := by
  refine ct_of (hS 55 (by decide)) fn55 ?_
  refine ⟨by omega, by omega, ?_⟩
  refine ⟨by kernel_rfl, ?_⟩
  refine ⟨_, rfl, rfl, ?_⟩
  refine callq rfl (clone_ct S hS (by omega) ht) (by omega) ?_
  rintro _ rfl
  refine ⟨_, rfl, rfl, ?_⟩
  refine callq rfl (clone_ct S hS (by omega) hb) (by omega) ?_
  rintro _ rfl
  refine part2 fzL fzL ⟨[pIs t, pIs b], rfl, ?_⟩
  refine ⟨_, _, rfl, ⟨rfl, Nat.le_refl 2, rfl⟩, _, rfl, _, rfl, ?_⟩
  exact ⟨_, rfl, endq rfl rfl⟩
/-- the letter x, taken from the end and put right behind -/
def pbh (l : List Int) (x : Int) : List Int := l.take ((idx l x).toNat + 1) ++ l.drop (l.length - 1) ++ (l.take (l.length - 1)).drop ((idx l x).toNat + 1)
theorem fn57 : ctx.fn 57 = some c57 := by kernel_rfl
theorem pbh_ct (hS : OldX S) {l : List Int} {a : Int} (hl : 1 ≤ l.length ∧ l.length ≤ 12) (hi : 0 ≤ idx l a) (hil : idx l a + 1 ≤ l.length - 1) : Ct (ctx.plus S) 83 [pIs l, pn a] 60 fun r => r = pIs (pbh l a) :=
  putBehind_ct S hS hl (i := (idx l a).toNat) (by omega) (by omega)
theorem moved_ct (hS : OldX S) {t b : List Int} {x y κ : Int} {n : Nat} (lt : t.length = n) (lb : b.length = n) (hn : 2 ≤ n ∧ n ≤ 12) (hx : t[n - 1]? = some x) (hy : b[n - 1]? = some y)
    (hi : 0 ≤ idx b x ∧ idx b x + 1 ≤ n - 1) (hj : 0 ≤ idx t y ∧ idx t y + 1 ≤ n - 1) :
    Ct (ctx.plus S) 57 [pRo t b, pn κ] 100 fun r => r = if κ = 0 then .tup [pRo t (pbh b x), pn x, pn y] else .tup [pRo (pbh t y) b, pn y, pn x] := by
  have ht : t ≠ [] := fun h => by rw [h] at lt; simp at lt; omega
  have hb : b ≠ [] := fun h => by rw [h] at lb; simp at lb; omega
  refine ct_of (hS 57 (by decide)) fn57 ?_
  refine ⟨by omega, by omega, ?_⟩
  refine ⟨_, rfl, ?_⟩
  refine callq rfl (cloned_ct S hS (by omega) (by omega) ht hb) (by omega) ?_
  rintro _ rfl
  refine ⟨_, _, rfl, ⟨rfl, Nat.le_refl 2, rfl⟩, _, rfl, _, rfl, ?_⟩
  refine ⟨_, rfl, ?_⟩
  refine ⟨⟨by omega, by omega⟩, ?_⟩
  refine ⟨by kernel_rfl, ?_⟩
  refine ⟨_, rfl, rfl, ?_⟩
  refine ⟨⟨⟨by omega, by omega⟩, len_map_le (by omega)⟩, ?_⟩
  refine ⟨_, ld (at_map hx) (by show _ * 1 = n - 1; omega), rfl, ?_⟩
  refine ⟨_, rfl, rfl, ?_⟩
  refine ⟨⟨⟨by omega, by omega⟩, len_map_le (by omega)⟩, ?_⟩
  refine ⟨_, ld (at_map hy) (by show _ * 1 = n - 1; omega), rfl, ?_⟩
  refine ⟨fun h0 => ?_, fun h0 => ?_⟩
  · refine ⟨_, rfl, ?_⟩
    refine callq rfl (pbh_ct S hS (by omega) hi.1 (by omega)) (by omega) ?_
    rintro _ rfl
    refine ⟨_, _, rfl, ⟨rfl, Nat.le_refl 2, rfl⟩, _, rfl, _, rfl, ?_⟩
    refine ⟨_, rfl, ?_⟩
    refine ⟨_, _, rfl, ⟨rfl, Nat.le_refl 2, rfl⟩, _, rfl, _, rfl, ?_⟩
    exact ⟨_, rfl, endsq rfl (by rw [if_pos h0]; rfl)⟩
  · refine ⟨_, rfl, ?_⟩
    refine callq rfl (pbh_ct S hS (by omega) hj.1 (by omega)) (by omega) ?_
    rintro _ rfl
    refine ⟨_, _, rfl, ⟨rfl, (by show 1 ≤ 2; decide), rfl⟩, _, rfl, _, rfl, ?_⟩
    refine ⟨_, rfl, ?_⟩
    refine ⟨_, _, rfl, ⟨rfl, Nat.le_refl 2, rfl⟩, _, rfl, _, rfl, ?_⟩
    exact ⟨_, rfl, endsq rfl (by rw [if_neg h0]; rfl)⟩
end Go.PI
/- MATRICES that may be written: a block of slices of blocks of our own. -/
open Go.Proofs
namespace Go.PI
open IM
set_option maxRecDepth 10000
set_option maxHeartbeats 4000000
variable (S : FuncId → Option (List AV → Heap → Option (AV × Heap)))
def Omx : Opn := ⟨fun t => Nat.beq t 22, fun t => Nat.beq t 22⟩
/-- the slice of row q of the matrix whose block is j -/
def rwOf (j n : Nat) (q : Nat) : PV := .own (j + 1 + q) 0 n n 1
/-- a matrix M of n columns in block j, its rows in the blocks behind -/
structure Mx (σ : List StB) (j n : Nat) (M : List (List Int)) : Prop where
  top : σ[j]? = some (.liv 22 ((List.range M.length).map (rwOf j n)))
  row : ∀ (q : Nat) (r : List Int), M[q]? = some r → r.length = n ∧ σ[j + 1 + q]? = some (.live 3 (r.map pn))
def unitR (n q : Nat) : List Int := (List.replicate n 0).set q 1
def unitM (n : Nat) : List (List Int) := (List.range n).map (unitR n)
theorem unit_put {n i : Nat} (h : i < n) : pspl ((List.replicate n (0 : Int)).map pn) i [pn 1] = (unitR n i).map pn := by
  rw [spl_one (by simp; exact h)]
  unfold unitR
  rw [List.map_set]
theorem unitM_get {n q : Nat} {r : List Int} (h : (unitM n)[q]? = some r) : q < n ∧ r = unitR n q := by
  unfold unitM at h
  obtain ⟨hq, h2⟩ := List.getElem?_eq_some_iff.1 h
  simp only [List.length_map, List.length_range] at hq
  simp only [List.getElem_map, List.getElem_range] at h2
  exact ⟨hq, h2.symm⟩
theorem fn56 : ctx.fn 56 = some c56 := by kernel_rfl
theorem unit_cm (hS : OldX S) {n : Nat} {σ : List StB} (hn : n ≤ 12) : Cm (ctx.plus S) 56 [pn n] σ 13 fun r σ' => r = .own σ.length 0 n n 1 ∧ Mx σ' σ.length n (unitM n) ∧ σ'.length = σ.length + 1 + n ∧ ∀ (i : Nat) (b : StB), σ[i]? = some b → σ'[i]? = some b := by
  refine cm_of Omx (hS 56 (by decide)) fn56 fun c k0 hc => ?_
  refine ⟨by omega, ⟨by omega, by omega, by omega⟩, _, fillc_zero (f := rwOf σ.length n), ?_⟩
  refine ⟨fun m s => ∃ (i : Nat) (σ' : List StB) (T : List PV), s = ⟨T, σ', k0 + 1 + i⟩ ∧ Gt T 25 [(0, pn n), (3, .own σ.length 0 n n 1), (7, .own σ.length 0 n n 1), (8, pn n), (9, pn i)] ∧ m = n - i ∧ i ≤ n ∧ σ'.length = σ.length + 1 + i ∧ σ'[σ.length]? = some (.liv 22 (fillc (rwOf σ.length n) .nils n (List.range i))) ∧ (∀ q, q < i → σ'[σ.length + 1 + q]? = some (.live 3 ((unitR n q).map pn))) ∧ (∀ (i : Nat) (b : StB), σ[i]? = some b → σ'[i]? = some b), ⟨_, ci ⟨0, _, _, rfl, ⟨rfl, rfl, rfl, rfl, rfl, rfl, trivial⟩, rfl, Nat.zero_le _, by simp, push_get, fun q h => by omega, fun i b h => push_old h⟩⟩, ?_⟩
  rintro _ s ⟨i, σ', T, rfl, hT, rfl, hi, hlen, htop, hrow, hold⟩
  obtain ⟨J, rfl⟩ := gt_open hT
  clear hT
  refine ⟨fun hlt => ?_, fun hge => ?_⟩
  · have hr : PV.own σ'.length 0 n n 1 = rwOf σ.length n i := by unfold rwOf; rw [hlen]
    have hL : (List.range i).length = i := List.length_range
    have hnx : ∀ q, q = i → pspl (fillc (rwOf σ.length n) .nils n (List.range i)) q [PV.own σ'.length 0 n n 1] = fillc (rwOf σ.length n) .nils n (List.range (i + 1)) := fun q hq => by
      rw [hr, fillc_next (by omega) (by omega), ← List.range_succ]
    refine ⟨by omega, ⟨by omega, by omega, by omega⟩, _, rep_flat n, ?_⟩
    refine ⟨⟨by omega, by omega⟩, ?_⟩
    refine ⟨_, _, push_old htop, ⟨rfl, by rw [fillc_len (by omega)]; show 0 + i * 1 + 1 ≤ n; omega, rfl⟩, _, hnx (0 + i * 1) (by omega), _, rfl, ?_⟩
    refine ⟨⟨by omega, by omega⟩, ?_⟩
    have hj : ((σ' ++ [StB.live 3 ((List.replicate n (0 : Int)).map pn)]).set σ.length (.liv 22 (fillc (rwOf σ.length n) .nils n (List.range (i + 1)))))[σ.length]? = some (.liv 22 (fillc (rwOf σ.length n) .nils n (List.range (i + 1)))) := by
      rw [List.getElem?_set_self (by rw [List.length_append]; omega)]
    refine ⟨_, load_liv hj rfl (show (fillc (rwOf σ.length n) .nils n (List.range (i + 1)))[0 + i * 1]? = some (rwOf σ.length n i) from by
      have := fillc_get (f := rwOf σ.length n) (z := PV.nils) (n := n) (L := List.range i) (x := i) (by omega)
      rw [hL, ← List.range_succ] at this
      rw [Nat.zero_add, Nat.mul_one]
      exact this), ?_⟩
    refine ⟨⟨by omega, by omega⟩, ?_⟩
    obtain ⟨τ, hτ⟩ : ∃ τ, ((σ' ++ [StB.live 3 ((List.replicate n (0 : Int)).map pn)]).set σ.length (.liv 22 (fillc (rwOf σ.length n) .nils n (List.range (i + 1))))) = τ := ⟨_, rfl⟩
    rw [hτ] at hj
    have hτl : τ.length = σ.length + 1 + i + 1 := by rw [← hτ, List.length_set, List.length_append, hlen]; rfl
    have hrw : τ[σ.length + 1 + i]? = some (.live 3 ((List.replicate n (0 : Int)).map pn)) := by
      rw [← hτ, List.getElem?_set_ne (by omega)]; exact push_at (by omega)
    have hro : ∀ q, q < i → τ[σ.length + 1 + q]? = some (.live 3 ((unitR n q).map pn)) := fun q hq => by
      rw [← hτ, List.getElem?_set_ne (by omega)]; exact push_old (hrow q hq)
    have hso : ∀ (j : Nat) (b : StB), σ[j]? = some b → τ[j]? = some b := fun j b hb => by
      have := (List.getElem?_eq_some_iff.1 hb).1
      rw [← hτ, List.getElem?_set_ne (by omega)]; exact push_old (hold j b hb)
    have hput : ∀ q, q = i → pspl ((List.replicate n (0 : Int)).map pn) q [pn 1] = (unitR n i).map pn := fun q hq => by rw [hq]; exact unit_put (by omega)
    refine ⟨_, _, (by rw [hτ]; exact hrw), ⟨rfl, by rw [List.length_map, List.length_replicate]; show 0 + i * 1 + 1 ≤ n; omega, rfl⟩, _, hput (0 + i * 1) (by omega), _, rfl, ?_⟩
    rw [hτ]
    refine ⟨⟨by omega, by omega⟩, ?_⟩
    refine ⟨_, by omega, ci ⟨i + 1, _, _, rfl, ⟨rfl, rfl, rfl, rfl, rfl, rfl, trivial⟩, rfl, by omega, by rw [List.length_set, hτl]; rfl, ?_, fun q hq => ?_, fun j b hb => ?_⟩⟩
    · rw [List.getElem?_set_ne (by omega)]; exact hj
    · by_cases hqi : q = i
      · subst hqi
        rw [List.getElem?_set_self (by omega)]
      · rw [List.getElem?_set_ne (by omega)]; exact hro q (by omega)
    · have := (List.getElem?_eq_some_iff.1 hb).1
      rw [List.getElem?_set_ne (by omega)]; exact hso j b hb
  · have hin : i = n := by omega
    subst hin
    refine endm [] (by dsimp only; omega) ?_
    refine ⟨rfl, ⟨?_, fun q r hq => ?_⟩, hlen, hold⟩
    · rw [htop, fillc_full List.length_range]
      simp [unitM]
    · obtain ⟨h1, rfl⟩ := unitM_get hq
      exact ⟨by simp [unitR], hrow q h1⟩
end Go.PI
