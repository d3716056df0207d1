/- Own work of the verifier: OgSd. -/
import Derived.Test.YtefajaiioljjoaaOiAY
import Derived.Test.YtefajaiioljjoaaOiBB
set_option linter.all false
set_option exponentiation.threshold 3000
set_option linter.deprecated false
/- SADDLES: the singular squares, how far it is to the next one, and the vertex of a square. -/
open Go.Proofs
namespace Go.PI
def ZL (l : List Nat) : List Int := l.map fun (x : Nat) => (x : Int)
theorem ZL_len {l : List Nat} : (ZL l).length = l.length := by unfold ZL; rw [List.length_map]
theorem ZL_get {l : List Nat} {i x : Nat} (h : l[i]? = some x) : (ZL l)[i]? = some (x : Int) := by unfold ZL; rw [List.getElem?_map, h]; rfl
theorem ZL_mem {l : List Nat} {x : Nat} : (x : Int) ∈ ZL l ↔ x ∈ l := by
  unfold ZL
  constructor
  · intro h
    obtain ⟨y, h1, h2⟩ := List.mem_map.1 h
    have : y = x := by omega
    exact this ▸ h1
  · exact fun h => List.mem_map.2 ⟨x, h, rfl⟩
def sing (c : Nat → Nat) (n : Nat) : List Nat := (List.range n).filter fun i => decide (c i ≠ i)
theorem sing_step {c : Nat → Nat} {n : Nat} : sing c (n + 1) = if c n ≠ n then sing c n ++ [n] else sing c n := by
  unfold sing
  rw [List.range_succ, List.filter_append]
  by_cases h : c n ≠ n
  · rw [if_pos h]; simp [h]
  · rw [if_neg h]; simp [h]
theorem mem_sing {c : Nat → Nat} {n x : Nat} : x ∈ sing c n ↔ x < n ∧ c x ≠ x := by simp [sing]
theorem sing_len {c : Nat → Nat} {n : Nat} : (sing c n).length ≤ n := by
  have := List.length_filter_le (fun i => decide (c i ≠ i)) (List.range n)
  rw [List.length_range] at this
  exact this
theorem least {p : Nat → Prop} : ∀ N, (∃ m, m ≤ N ∧ p m) → ∃ m, m ≤ N ∧ p m ∧ ∀ k, k < m → ¬ p k
  | 0, ⟨m, hm, hp⟩ => ⟨m, hm, hp, fun k hk => by omega⟩
  | N + 1, ⟨m, hm, hp⟩ => by
    by_cases h : ∃ m, m ≤ N ∧ p m
    · obtain ⟨m, a, b, c⟩ := least N h
      exact ⟨m, by omega, b, c⟩
    · exact ⟨m, hm, hp, fun k hk hpk => h ⟨k, by omega, hpk⟩⟩
def Len (f c : Nat → Nat) (i m : Nat) : Prop := 0 < m ∧ c (it f m i) ≠ it f m i ∧ ∀ k, 0 < k → k < m → c (it f k i) = it f k i
noncomputable def sadl (f c : Nat → Nat) (i : Nat) : Nat := open Classical in if h : ∃ m, Len f c i m then h.choose else 0
theorem len_one {f c : Nat → Nat} {i m m' : Nat} (h : Len f c i m) (h' : Len f c i m') : m = m' := by
  rcases Nat.lt_trichotomy m m' with hl | hl | hl
  · exact absurd (h'.2.2 m h.1 hl) h.2.1
  · exact hl
  · exact absurd (h.2.2 m' h'.1 hl) h'.2.1
theorem slen_is {f c : Nat → Nat} {i m : Nat} (h : Len f c i m) : sadl f c i = m := by
  have hx : ∃ m, Len f c i m := ⟨m, h⟩
  unfold sadl
  rw [dif_pos hx]
  exact len_one hx.choose_spec h
theorem slen_spec {n : Nat} {f f' c : Nat → Nat} {i : Nat} (hf : IsP n f f') (hi : i < n) (hc : c i ≠ i) : Len f c i (sadl f c i) ∧ sadl f c i ≤ n := by
  obtain ⟨o1, o2, o3, o4⟩ := ordr_spec hf hi
  obtain ⟨m, h1, ⟨h2, h3⟩, h4⟩ := least (p := fun m => 0 < m ∧ c (it f m i) ≠ it f m i) n ⟨ordr f i, o3, o1, by rw [o2]; exact hc⟩
  have hL : Len f c i m := ⟨h2, h3, fun k hk hkm => by
    have := h4 k hkm
    by_cases h : c (it f k i) = it f k i
    · exact h
    · exact absurd ⟨hk, h⟩ this⟩
  rw [slen_is hL]
  exact ⟨hL, h1⟩
/-- above: the row above goes along -/
theorem row_along {n : Nat} {f f' g g' : Nat → Nat} (pr : IsP n f f') (pu : IsP n g g') {i m : Nat} (hi : i < n) (hfix : ∀ k, 0 < k → k < m → cmf f f' g g' (it f k i) = it f k i) : ∀ k, k < m → it f k (g' i) = g' (it f k i)
  | 0, _ => rfl
  | k + 1, hk => by
    have ih := row_along pr pu hi hfix k (by omega)
    have hx := hfix (k + 1) (by omega) hk
    have hk1 := it_lt pr hi k
    show f (it f k (g' i)) = g' (it f (k + 1) i)
    rw [ih]
    have e : cmf f f' g g' (it f (k + 1) i) = g (f (g' (it f k i))) := by
      show g (f (g' (f' (f (it f k i))))) = _
      rw [pr.gf _ hk1]
    rw [e] at hx
    rw [← hx, pu.gf _ (pr.lt _ (pu.glt _ hk1))]
theorem below_eq {n : Nat} {f f' g g' : Nat → Nat} (pr : IsP n f f') (pu : IsP n g g') {i m : Nat} (hi : i < n) (hm : 0 < m) (hfix : ∀ k, 0 < k → k < m → cmf f f' g g' (it f k i) = it f k i) : g (it f m (g' i)) = cmf f f' g g' (it f m i) := by
  obtain ⟨k, rfl⟩ : ∃ k, m = k + 1 := ⟨m - 1, by omega⟩
  have ih := row_along pr pu hi hfix k (by omega)
  have hk1 := it_lt pr hi k
  show g (f (it f k (g' i))) = g (f (g' (f' (f (it f k i)))))
  rw [ih, pr.gf _ hk1]
/-! ### The vertex of a square -/
def VAt (C : List (List Int)) (x i : Nat) : Prop := (∃ l, C[i]? = some l ∧ (x : Int) ∈ l) ∧ ∀ j, j < i → ∀ l, C[j]? = some l → (x : Int) ∉ l
noncomputable def vx (C : List (List Int)) (x : Nat) : Nat := open Classical in if h : ∃ i, VAt C x i then h.choose else 0
theorem vat_one {C : List (List Int)} {x i i' : Nat} (h : VAt C x i) (h' : VAt C x i') : i = i' := by
  obtain ⟨⟨l, h1, h2⟩, h3⟩ := h
  obtain ⟨⟨l', h1', h2'⟩, h3'⟩ := h'
  rcases Nat.lt_trichotomy i i' with hl | hl | hl
  · exact absurd h2 (h3' i hl l h1)
  · exact hl
  · exact absurd h2' (h3 i' hl l' h1')
theorem vx_is {C : List (List Int)} {x i : Nat} (h : VAt C x i) : vx C x = i := by
  have hx : ∃ m, VAt C x m := ⟨i, h⟩
  unfold vx
  rw [dif_pos hx]
  exact vat_one hx.choose_spec h
open Classical in
theorem cycs_get {n : Nat} {c : Nat → Nat} {i : Nat} {l : List Int} (h : (cycs n c)[i]? = some l) : ∃ a, ((List.range n).filter fun x => decide (lead c x))[i]? = some a ∧ l = cyc c a ∧ a < n ∧ lead c a := by
  unfold cycs at h
  rw [List.getElem?_map] at h
  cases ha : ((List.range n).filter fun x => decide (lead c x))[i]? with
  | none => rw [ha] at h; cases h
  | some a =>
    rw [ha] at h
    cases h
    have hm := List.mem_filter.1 (List.mem_of_getElem? ha)
    exact ⟨a, rfl, rfl, List.mem_range.1 hm.1, of_decide_eq_true hm.2⟩
open Classical in
theorem cycs_one {n : Nat} {c c' : Nat → Nat} (hc : IsP n c c') {i j x : Nat} {l l' : List Int} (h : (cycs n c)[i]? = some l) (h' : (cycs n c)[j]? = some l') (hx : (x : Int) ∈ l) (hx' : (x : Int) ∈ l') : i = j := by
  obtain ⟨a, a1, rfl, a2, a3⟩ := cycs_get h
  obtain ⟨b, b1, rfl, b2, b3⟩ := cycs_get h'
  obtain ⟨y, hy, ha⟩ := (mem_cyc hc a2).1 hx
  obtain ⟨z, hz, hb⟩ := (mem_cyc hc b2).1 hx'
  have e1 : y = x := by omega
  have e2 : z = x := by omega
  subst e1
  subst e2
  have hab : a = b := Nat.le_antisymm (a3 b (ha.trans (hb.symm hc b2))) (b3 a (hb.trans (ha.symm hc a2)))
  subst hab
  have hp : List.Pairwise (· < ·) ((List.range n).filter fun x => decide (lead c x)) := List.Pairwise.filter _ List.pairwise_lt_range
  obtain ⟨q1, q2⟩ := List.getElem?_eq_some_iff.1 a1
  obtain ⟨q3, q4⟩ := List.getElem?_eq_some_iff.1 b1
  rcases Nat.lt_trichotomy i j with hl | hl | hl
  · have := List.pairwise_iff_getElem.1 hp i j q1 q3 hl
    rw [q2, q4] at this
    exact absurd this (Nat.lt_irrefl _)
  · exact hl
  · have := List.pairwise_iff_getElem.1 hp j i q3 q1 hl
    rw [q2, q4] at this
    exact absurd this (Nat.lt_irrefl _)
theorem vx_cyc {n : Nat} {c c' : Nat → Nat} (hc : IsP n c c') {i x : Nat} {l : List Int} (h : (cycs n c)[i]? = some l) (hx : (x : Int) ∈ l) : vx (cycs n c) x = i :=
  vx_is ⟨⟨l, h, hx⟩, fun j hj l' h' hx' => by have := cycs_one hc h h' hx hx'; omega⟩
open Classical in
theorem vx_ex {n : Nat} {c c' : Nat → Nat} (hc : IsP n c c') {x : Nat} (hx : x < n) : ∃ l, (cycs n c)[vx (cycs n c) x]? = some l ∧ (x : Int) ∈ l := by
  obtain ⟨y, hy, h1, h2⟩ := lead_ex hc hx
  have hm : y ∈ (List.range n).filter fun x => decide (lead c x) := List.mem_filter.2 ⟨List.mem_range.2 hy, decide_eq_true h1⟩
  obtain ⟨i, hi⟩ := List.getElem?_of_mem hm
  have hg : (cycs n c)[i]? = some (cyc c y) := by
    unfold cycs
    rw [List.getElem?_map, hi]
    rfl
  have hxm : (x : Int) ∈ cyc c y := (mem_cyc hc hy).2 ⟨x, rfl, h2⟩
  rw [vx_cyc hc hg hxm]
  exact ⟨_, hg, hxm⟩
/-! ### The places of the singular ones in a table -/
def esI : List Nat → Nat → List (Int × PV)
  | [], _ => []
  | x :: l, k => ((x : Int), pn k) :: esI l (k + 1)
theorem esI_len : ∀ {l : List Nat} {k : Nat}, (esI l k).length = l.length
  | [], _ => rfl
  | x :: l, k => by show (esI l (k + 1)).length + 1 = l.length + 1; rw [esI_len]
theorem esI_app : ∀ {l : List Nat} {k x : Nat}, esI (l ++ [x]) k = esI l k ++ [((x : Int), pn ((k + l.length : Nat) : Int))]
  | [], _, _ => rfl
  | y :: l, k, x => by
    show ((y : Int), pn k) :: esI (l ++ [x]) (k + 1) = _
    rw [esI_app (l := l)]
    show _ = ((y : Int), pn k) :: (esI l (k + 1) ++ _)
    rw [show k + 1 + l.length = k + (y :: l).length by show _ = k + (l.length + 1); omega]
theorem esI_set : ∀ {l : List Nat} {k x : Nat} {v : PV}, x ∉ l → pmapSet (esI l k) (x : Int) v = esI l k ++ [((x : Int), v)]
  | [], _, _, _, _ => rfl
  | y :: l, k, x, v, h => by
    have hne : ((y : Int) == (x : Int)) = false := by
      simp only [beq_eq_false_iff_ne, ne_eq]
      intro e
      exact h (by rw [show x = y by omega]; exact List.mem_cons_self)
    show pmapSet (((y : Int), pn k) :: esI l (k + 1)) (x : Int) v = _
    unfold pmapSet
    rw [hne]
    show _ :: pmapSet (esI l (k + 1)) x v = _
    rw [esI_set fun hm => h (List.mem_cons_of_mem _ hm)]
    rfl
theorem esI_get : ∀ {l : List Nat} {k x : Nat}, x ∈ l → pmapGet (esI l k) (x : Int) = some (pn ((k + l.idxOf x : Nat) : Int))
  | [], _, _, h => by cases h
  | y :: l, k, x, h => by
    show pmapGet (((y : Int), pn k) :: esI l (k + 1)) (x : Int) = _
    unfold pmapGet
    by_cases e : y = x
    · subst e
      rw [beq_self_eq_true]
      simp
    · have hne : ((y : Int) == (x : Int)) = false := by
        simp only [beq_eq_false_iff_ne, ne_eq]
        omega
      rw [hne]
      show pmapGet (esI l (k + 1)) x = _
      have hm : x ∈ l := by
        rcases List.mem_cons.1 h with h | h
        · exact absurd h.symm e
        · exact h
      rw [esI_get hm]
      have : (y :: l).idxOf x = l.idxOf x + 1 := by
        rw [List.idxOf_cons]
        have : (y == x) = false := by simpa using e
        rw [this]
        rfl
      rw [this, show k + 1 + l.idxOf x = k + (l.idxOf x + 1) by omega]
theorem idxOf_ZL : ∀ {l : List Nat} {x : Nat}, (ZL l).idxOf (x : Int) = l.idxOf x
  | [], _ => rfl
  | y :: l, x => by
    show ((y : Int) :: ZL l).idxOf (x : Int) = _
    rw [List.idxOf_cons, List.idxOf_cons, idxOf_ZL (l := l)]
    by_cases e : y = x
    · subst e; simp
    · have h1 : ((y : Int) == (x : Int)) = false := by simp only [beq_eq_false_iff_ne, ne_eq]; omega
      have h2 : (y == x) = false := by simpa using e
      rw [h1, h2]
theorem idx_ZL {l : List Nat} {x : Nat} (h : x ∈ l) : idx (ZL l) (x : Int) = (l.idxOf x : Nat) := by
  unfold idx
  rw [if_pos (ZL_mem.2 h), idxOf_ZL]
/-! ### The saddles -/
noncomputable def sdl (n : Nat) (f c : Nat → Nat) (i : Nat) : List Int :=
  [(i : Int), (sadl f c i : Nat), (vx (cycs n c) i : Nat), (vx (cycs n c) (it f (sadl f c i) i) : Nat), idx (ZL (sing c n)) (it f (sadl f c i) i : Nat), idx (ZL (sing c n)) (c (it f (sadl f c i) i) : Nat)]
noncomputable def sds (n : Nat) (f c : Nat → Nat) (l : List Nat) : List Int := l.flatMap (sdl n f c)
theorem sds_len {n : Nat} {f c : Nat → Nat} : ∀ {l : List Nat}, (sds n f c l).length = 6 * l.length
  | [] => rfl
  | x :: l => by
    have := sds_len (n := n) (f := f) (c := c) (l := l)
    unfold sds at this ⊢
    rw [List.flatMap_cons, List.length_append, this]
    show 6 + _ = 6 * (l.length + 1)
    omega
theorem sds_app {n : Nat} {f c : Nat → Nat} {l : List Nat} {x : Nat} : sds n f c (l ++ [x]) = sds n f c l ++ sdl n f c x := by
  unfold sds
  rw [List.flatMap_append]
  simp
theorem sds_at {n : Nat} {f c : Nat → Nat} : ∀ {l : List Nat} {i x q : Nat}, l[i]? = some x → q = 6 * i → ((sds n f c l).drop q).take 6 = sdl n f c x
  | [], _, _, _, h, _ => by simp at h
  | y :: l, 0, x, q, h, hq => by
    simp at h
    subst h; subst hq
    rfl
  | y :: l, i + 1, x, q, h, hq => by
    have e : sds n f c (y :: l) = sdl n f c y ++ sds n f c l := rfl
    rw [e, hq, show 6 * (i + 1) = (sdl n f c y).length + 6 * i by show _ = 6 + 6 * i; omega, List.drop_append]
    rw [List.drop_of_length_le (by omega), List.nil_append, Nat.add_sub_cancel_left]
    exact sds_at (by simpa using h) rfl
noncomputable def pSd (n : Nat) (f c : Nat → Nat) (l : List Nat) : PV := .lst l.length ((sds n f c l).map pn)
end Go.PI
