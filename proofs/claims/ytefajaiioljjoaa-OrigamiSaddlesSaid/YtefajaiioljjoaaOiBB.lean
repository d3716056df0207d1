/- Own work of the verifier: OgK. -/
import Derived.Test.YtefajaiioljjoaaOiAX
import Derived.Test.YtefajaiioljjoaaOiAQ
set_option linter.all false
set_option exponentiation.threshold 3000
set_option linter.deprecated false
/- CONJUGATE PERMUTATIONS have cycles of the same lengths; quotients rounded down. -/
namespace Go.PI
section
variable {n : Nat} {c c' d d' h h' : Nat → Nat}
/-- h takes the one to the other -/
def Conj (n : Nat) (c d h : Nat → Nat) : Prop := ∀ x, x < n → d (h x) = h (c x)
theorem conj_it (hc : IsP n c c') (k : Conj n c d h) {x : Nat} (hx : x < n) : ∀ m, it d m (h x) = h (it c m x)
  | 0 => rfl
  | m + 1 => by simp only [it]; rw [conj_it hc k hx m, k _ (it_lt hc hx m)]
theorem conj_ordr (hc : IsP n c c') (hd : IsP n d d') (hh : IsP n h h') (k : Conj n c d h) {x : Nat} (hx : x < n) : ordr d (h x) = ordr c x := by
  obtain ⟨a1, a2, a3, a4⟩ := ordr_spec hc hx
  obtain ⟨b1, b2, b3, b4⟩ := ordr_spec hd (hh.lt x hx)
  have e : ∀ m, it d m (h x) = h x ↔ it c m x = x := fun m => by
    rw [conj_it hc k hx]
    exact ⟨fun e => hh.inj (it_lt hc hx m) hx e, fun e => by rw [e]⟩
  rcases Nat.lt_trichotomy (ordr d (h x)) (ordr c x) with g | g | g
  · exact absurd ((e _).1 b2) (a4 _ b1 g)
  · exact g
  · exact absurd ((e _).2 a2) (b4 _ a1 g)
open Classical in
/-- how many elements are in cycles of a length -/
noncomputable def elems (n : Nat) (c : Nat → Nat) (m : Nat) : List Nat := (List.range n).filter fun x => decide (ordr c x = m)
open Classical in
/-- the cycles of a length, by their least elements -/
noncomputable def leads (n : Nat) (c : Nat → Nat) (m : Nat) : List Nat := (List.range n).filter fun x => decide (lead c x ∧ ordr c x = m)
theorem mem_elems {m x : Nat} : x ∈ elems n c m ↔ x < n ∧ ordr c x = m := by simp [elems]
theorem mem_leads {m x : Nat} : x ∈ leads n c m ↔ x < n ∧ lead c x ∧ ordr c x = m := by simp [leads]
theorem nodup_range (n : Nat) : (List.range n).Nodup := by
  unfold List.Nodup
  exact List.pairwise_lt_range.imp fun h e => by omega
theorem elems_nodup {m : Nat} : (elems n c m).Nodup := (nodup_range n).filter _
theorem leads_nodup {m : Nat} : (leads n c m).Nodup := (nodup_range n).filter _
theorem conj_elems (hc : IsP n c c') (hd : IsP n d d') (hh : IsP n h h') (k : Conj n c d h) (m : Nat) : (elems n c m).length ≤ (elems n d m).length := by
  have hn : ((elems n c m).map h).Nodup := by
    unfold List.Nodup
    rw [List.pairwise_map]
    refine (elems_nodup (n := n) (c := c) (m := m)).imp_of_mem fun {a b} ha hb hab e => hab (hh.inj (mem_elems.1 ha).1 (mem_elems.1 hb).1 e)
  have := len_le_of hn (m := elems n d m) fun y hy => by
    obtain ⟨x, hx, rfl⟩ := List.mem_map.1 hy
    obtain ⟨h1, h2⟩ := mem_elems.1 hx
    exact mem_elems.2 ⟨hh.lt x h1, by rw [conj_ordr hc hd hh k h1, h2]⟩
  rwa [List.length_map] at this
theorem Conj.inv (hc : IsP n c c') (hh : IsP n h h') (k : Conj n c d h) (hd : IsP n d d') : Conj n d c h' := fun x hx => by
  have := k (h' x) (hh.glt x hx)
  rw [hh.fg x hx] at this
  rw [this, hh.gf _ (hc.lt _ (hh.glt x hx))]
theorem conj_count (hc : IsP n c c') (hd : IsP n d d') (hh : IsP n h h') (k : Conj n c d h) (m : Nat) : (elems n c m).length = (elems n d m).length :=
  Nat.le_antisymm (conj_elems hc hd hh k m) (conj_elems hd hc hh.inv (k.inv hc hh hd) m)
/-- the same cycle, as numbers -/
noncomputable def cycN (c : Nat → Nat) (x : Nat) : List Nat := (List.range (ordr c x)).map fun k => it c k x
theorem cycN_mem (hc : IsP n c c') {x y : Nat} (hx : x < n) : y ∈ cycN c x ↔ InC c x y := by
  have := mem_cyc hc hx (v := (y : Int))
  constructor
  · intro hy
    obtain ⟨k, -, rfl⟩ := List.mem_map.1 hy
    exact ⟨k, rfl⟩
  · intro hy
    obtain ⟨k, hk, e⟩ := List.mem_map.1 (this.2 ⟨y, rfl, hy⟩)
    exact List.mem_map.2 ⟨k, hk, by omega⟩
theorem cycN_nodup (hc : IsP n c c') {x : Nat} (hx : x < n) : (cycN c x).Nodup := by
  obtain ⟨o1, o2, o3, o4⟩ := ordr_spec hc hx
  unfold cycN List.Nodup
  rw [List.pairwise_map]
  refine List.pairwise_lt_range.imp_of_mem fun {a b} ha hb hab e => ?_
  have hb' := List.mem_range.1 hb
  have e2 : it c b x = it c a (it c (b - a) x) := by rw [← it_add]; congr 1; omega
  rw [e2] at e
  exact o4 (b - a) (by omega) (by omega) (it_inj hc hx (it_lt hc hx _) e).symm
theorem inC_ordr (hc : IsP n c c') {x y : Nat} (hx : x < n) (h : InC c x y) : ordr c y = ordr c x := by
  obtain ⟨k, rfl⟩ := h
  exact conj_ordr hc hc (h := it c k) (h' := it c' k) ⟨fun i hi => it_lt hc hi k, fun i hi => it_lt hc.inv hi k, fun i hi => by
      induction k with
      | zero => rfl
      | succ k ih => rw [show it c (k + 1) i = c (it c k i) from rfl, it_succ', hc.gf _ (it_lt hc hi k), ih], fun i hi => by
      induction k with
      | zero => rfl
      | succ k ih => rw [show it c' (k + 1) i = c' (it c' k i) from rfl, it_succ', hc.fg _ (it_lt hc.inv hi k), ih]⟩ (fun x hx => by rw [← it_succ']; rfl) hx
theorem lead_ex (hc : IsP n c c') {x : Nat} (hx : x < n) : ∃ y, y < n ∧ lead c y ∧ InC c y x := by
  obtain ⟨y, hy, hl⟩ := ex_least (P := fun y => InC c x y) ⟨x, InC.refl _ _⟩
  have hyn : y < n := by
    obtain ⟨k, rfl⟩ := hy
    exact it_lt hc hx k
  refine ⟨y, hyn, fun z hz => ?_, hy.symm hc hx⟩
  rcases Nat.lt_or_ge z y with a | a
  · exact absurd (hy.trans hz) (hl z a)
  · exact a
theorem leads_count (hc : IsP n c c') (m : Nat) : m * (leads n c m).length = (elems n c m).length := by
  have hlen : ((leads n c m).flatMap (cycN c)).length = m * (leads n c m).length := by
    have : ∀ (L : List Nat), (∀ x ∈ L, ordr c x = m) → (L.flatMap (cycN c)).length = m * L.length := by
      intro L
      induction L with
      | nil => intro _; simp
      | cons a L ih =>
        intro hL
        rw [List.flatMap_cons, List.length_append, ih fun x hx => hL x (by simp [hx])]
        have : (cycN c a).length = m := by rw [← hL a (by simp)]; simp [cycN]
        rw [this, List.length_cons, Nat.mul_succ]
        omega
    exact this _ fun x hx => (mem_leads.1 hx).2.2
  rw [← hlen]
  apply Nat.le_antisymm
  · refine len_le_of ?_ fun y hy => ?_
    · unfold List.Nodup
      rw [List.pairwise_flatMap]
      refine ⟨fun a ha => cycN_nodup hc (mem_leads.1 ha).1, leads_nodup.imp_of_mem fun {a b} ha hb hab x hx y hy e => ?_⟩
      subst e
      obtain ⟨a1, a2, a3⟩ := mem_leads.1 ha
      obtain ⟨b1, b2, b3⟩ := mem_leads.1 hb
      have hx' := (cycN_mem hc a1).1 hx
      have hy' := (cycN_mem hc b1).1 hy
      have q1 := a2 b (hx'.trans (hy'.symm hc b1))
      have q2 := b2 a (hy'.trans (hx'.symm hc a1))
      exact hab (Nat.le_antisymm q1 q2)
    · obtain ⟨a, ha, hy⟩ := List.mem_flatMap.1 hy
      obtain ⟨a1, a2, a3⟩ := mem_leads.1 ha
      have hy' := (cycN_mem hc a1).1 hy
      refine mem_elems.2 ⟨?_, by rw [inC_ordr hc a1 hy', a3]⟩
      obtain ⟨k, rfl⟩ := hy'
      exact it_lt hc a1 k
  · refine len_le_of elems_nodup fun x hx => ?_
    obtain ⟨h1, h2⟩ := mem_elems.1 hx
    obtain ⟨y, hy, hl, hc2⟩ := lead_ex hc h1
    exact List.mem_flatMap.2 ⟨y, mem_leads.2 ⟨hy, hl, by rw [← inC_ordr hc hy hc2, h2]⟩, (cycN_mem hc hy).2 hc2⟩
theorem leads_zero (hc : IsP n c c') : leads n c 0 = [] := by
  refine List.eq_nil_iff_forall_not_mem.2 fun x hx => ?_
  obtain ⟨h1, h2, h3⟩ := mem_leads.1 hx
  have := (ordr_spec hc h1).1
  omega
theorem conj_leads (hc : IsP n c c') (hd : IsP n d d') (hh : IsP n h h') (k : Conj n c d h) (m : Nat) : (leads n c m).length = (leads n d m).length := by
  rcases Nat.eq_zero_or_pos m with rfl | hm
  · rw [leads_zero hc, leads_zero hd]
  · have a := leads_count hc m
    have b := leads_count hd m
    rw [conj_count hc hd hh k m, ← b] at a
    exact Nat.eq_of_mul_eq_mul_left hm a
end
/-! ### Quotients rounded down -/
def FloorIs (p q k : Int) : Prop := ∃ m, p = k * q + m ∧ (0 < q → 0 ≤ m ∧ m < q) ∧ (q < 0 → q < m ∧ m ≤ 0)
theorem floor_one {p q k k' : Int} (hq : q ≠ 0) (h : FloorIs p q k) (h' : FloorIs p q k') : k = k' := by
  obtain ⟨m, e, h1, h2⟩ := h
  obtain ⟨m', e', h1', h2'⟩ := h'
  have hd : (k - k') * q = m' - m := by rw [Int.sub_mul]; omega
  rcases Int.lt_trichotomy k k' with a | a | a
  · exfalso
    rcases Int.lt_trichotomy q 0 with b | b | b
    · have : (k' - k - 1) * (-q) ≥ 0 := Int.mul_nonneg (by omega) (by omega)
      have e3 : (k' - k - 1) * (-q) = (k - k') * q + q := by grind
      have := h2 b
      have := h2' b
      omega
    · exact hq b
    · have : (k' - k - 1) * q ≥ 0 := Int.mul_nonneg (by omega) (by omega)
      have e3 : (k' - k - 1) * q = -((k - k') * q) - q := by grind
      have := h1 b
      have := h1' b
      omega
  · exact a
  · exfalso
    rcases Int.lt_trichotomy q 0 with b | b | b
    · have : (k - k' - 1) * (-q) ≥ 0 := Int.mul_nonneg (by omega) (by omega)
      have e3 : (k - k' - 1) * (-q) = -((k - k') * q) + q := by grind
      have := h2 b
      have := h2' b
      omega
    · exact hq b
    · have : (k - k' - 1) * q ≥ 0 := Int.mul_nonneg (by omega) (by omega)
      have e3 : (k - k' - 1) * q = (k - k') * q - q := by grind
      have := h1 b
      have := h1' b
      omega
end Go.PI
