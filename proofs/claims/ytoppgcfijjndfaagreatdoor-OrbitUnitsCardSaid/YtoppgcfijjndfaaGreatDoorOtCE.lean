/- Own work of the verifier: OrK OrL OrM. -/
import Derived.Test.YtoppgcfijjndfaaGreatDoorOtAX
import Derived.Test.YtoppgcfijjndfaaGreatDoorOtAQ
import Derived.Test.YtoppgcfijjndfaaGreatDoorOtBB
set_option linter.all false
set_option exponentiation.threshold 3000
set_option linter.deprecated false
/- CONJUGATE PERMUTATIONS have cycles of the same lengths; quotients rounded down. -/
namespace Go.PI
section
variable {n : Nat} {c c' d d' h h' : Nat → Nat}
/-- h takes the one to the other -/
def Conj (n : Nat) (c d h : Nat → Nat) : Prop := ∀ x, x < n → d (h x) = h (c x)
theorem conj_it (hc : IsP n c c') (k : Conj n c d h) {x : Nat} (hx : x < n) : ∀ m, it d m (h x) = h (it c m x)
  | 0 => rfl
  | m + 1 => by simp only [it]; rw [conj_it hc k hx m, k _ (it_lt hc hx m)]
theorem conj_ordr (hc : IsP n c c') (hd : IsP n d d') (hh : IsP n h h') (k : Conj n c d h) {x : Nat} (hx : x < n) : ordr d (h x) = ordr c x := by
  obtain ⟨a1, a2, a3, a4⟩ := ordr_spec hc hx
  obtain ⟨b1, b2, b3, b4⟩ := ordr_spec hd (hh.lt x hx)
  have e : ∀ m, it d m (h x) = h x ↔ it c m x = x := fun m => by
    rw [conj_it hc k hx]
    exact ⟨fun e => hh.inj (it_lt hc hx m) hx e, fun e => by rw [e]⟩
  rcases Nat.lt_trichotomy (ordr d (h x)) (ordr c x) with g | g | g
  · exact absurd ((e _).1 b2) (a4 _ b1 g)
  · exact g
  · exact absurd ((e _).2 a2) (b4 _ a1 g)
open Classical in
/-- how many elements are in cycles of a length -/
noncomputable def elems (n : Nat) (c : Nat → Nat) (m : Nat) : List Nat := (List.range n).filter fun x => decide (ordr c x = m)
open Classical in
/-- the cycles of a length, by their least elements -/
noncomputable def leads (n : Nat) (c : Nat → Nat) (m : Nat) : List Nat := (List.range n).filter fun x => decide (lead c x ∧ ordr c x = m)
theorem mem_elems {m x : Nat} : x ∈ elems n c m ↔ x < n ∧ ordr c x = m := by simp [elems]
theorem mem_leads {m x : Nat} : x ∈ leads n c m ↔ x < n ∧ lead c x ∧ ordr c x = m := by simp [leads]
theorem nodup_range (n : Nat) : (List.range n).Nodup := by
  unfold List.Nodup
  exact List.pairwise_lt_range.imp fun h e => by omega
theorem elems_nodup {m : Nat} : (elems n c m).Nodup := (nodup_range n).filter _
theorem leads_nodup {m : Nat} : (leads n c m).Nodup := (nodup_range n).filter _
theorem conj_elems (hc : IsP n c c') (hd : IsP n d d') (hh : IsP n h h') (k : Conj n c d h) (m : Nat) : (elems n c m).length ≤ (elems n d m).length := by
  have hn : ((elems n c m).map h).Nodup := by
    unfold List.Nodup
    rw [List.pairwise_map]
    refine (elems_nodup (n := n) (c := c) (m := m)).imp_of_mem fun {a b} ha hb hab e => hab (hh.inj (mem_elems.1 ha).1 (mem_elems.1 hb).1 e)
  have := len_le_of hn (m := elems n d m) fun y hy => by
    obtain ⟨x, hx, rfl⟩ := List.mem_map.1 hy
    obtain ⟨h1, h2⟩ := mem_elems.1 hx
    exact mem_elems.2 ⟨hh.lt x h1, by rw [conj_ordr hc hd hh k h1, h2]⟩
  rwa [List.length_map] at this
theorem Conj.inv (hc : IsP n c c') (hh : IsP n h h') (k : Conj n c d h) (hd : IsP n d d') : Conj n d c h' := fun x hx => by
  have := k (h' x) (hh.glt x hx)
  rw [hh.fg x hx] at this
  rw [this, hh.gf _ (hc.lt _ (hh.glt x hx))]
theorem conj_count (hc : IsP n c c') (hd : IsP n d d') (hh : IsP n h h') (k : Conj n c d h) (m : Nat) : (elems n c m).length = (elems n d m).length :=
  Nat.le_antisymm (conj_elems hc hd hh k m) (conj_elems hd hc hh.inv (k.inv hc hh hd) m)
/-- the same cycle, as numbers -/
noncomputable def cycN (c : Nat → Nat) (x : Nat) : List Nat := (List.range (ordr c x)).map fun k => it c k x
theorem cycN_mem (hc : IsP n c c') {x y : Nat} (hx : x < n) : y ∈ cycN c x ↔ InC c x y := by
  have := mem_cyc hc hx (v := (y : Int))
  constructor
  · intro hy
    obtain ⟨k, -, rfl⟩ := List.mem_map.1 hy
    exact ⟨k, rfl⟩
  · intro hy
    obtain ⟨k, hk, e⟩ := List.mem_map.1 (this.2 ⟨y, rfl, hy⟩)
    exact List.mem_map.2 ⟨k, hk, by omega⟩
theorem cycN_nodup (hc : IsP n c c') {x : Nat} (hx : x < n) : (cycN c x).Nodup := by
  obtain ⟨o1, o2, o3, o4⟩ := ordr_spec hc hx
  unfold cycN List.Nodup
  rw [List.pairwise_map]
  refine List.pairwise_lt_range.imp_of_mem fun {a b} ha hb hab e => ?_
  have hb' := List.mem_range.1 hb
  have e2 : it c b x = it c a (it c (b - a) x) := by rw [← it_add]; congr 1; omega
  rw [e2] at e
  exact o4 (b - a) (by omega) (by omega) (it_inj hc hx (it_lt hc hx _) e).symm
theorem inC_ordr (hc : IsP n c c') {x y : Nat} (hx : x < n) (h : InC c x y) : ordr c y = ordr c x := by
  obtain ⟨k, rfl⟩ := h
  exact conj_ordr hc hc (h := it c k) (h' := it c' k) ⟨fun i hi => it_lt hc hi k, fun i hi => it_lt hc.inv hi k, fun i hi => by
      induction k with
      | zero => rfl
      | succ k ih => rw [show it c (k + 1) i = c (it c k i) from rfl, it_succ', hc.gf _ (it_lt hc hi k), ih], fun i hi => by
      induction k with
      | zero => rfl
      | succ k ih => rw [show it c' (k + 1) i = c' (it c' k i) from rfl, it_succ', hc.fg _ (it_lt hc.inv hi k), ih]⟩ (fun x hx => by rw [← it_succ']; rfl) hx
theorem lead_ex (hc : IsP n c c') {x : Nat} (hx : x < n) : ∃ y, y < n ∧ lead c y ∧ InC c y x := by
  obtain ⟨y, hy, hl⟩ := ex_least (P := fun y => InC c x y) ⟨x, InC.refl _ _⟩
  have hyn : y < n := by
    obtain ⟨k, rfl⟩ := hy
    exact it_lt hc hx k
  refine ⟨y, hyn, fun z hz => ?_, hy.symm hc hx⟩
  rcases Nat.lt_or_ge z y with a | a
  · exact absurd (hy.trans hz) (hl z a)
  · exact a
theorem leads_count (hc : IsP n c c') (m : Nat) : m * (leads n c m).length = (elems n c m).length := by
  have hlen : ((leads n c m).flatMap (cycN c)).length = m * (leads n c m).length := by
    have : ∀ (L : List Nat), (∀ x ∈ L, ordr c x = m) → (L.flatMap (cycN c)).length = m * L.length := by
      intro L
      induction L with
      | nil => intro _; simp
      | cons a L ih =>
        intro hL
        rw [List.flatMap_cons, List.length_append, ih fun x hx => hL x (by simp [hx])]
        have : (cycN c a).length = m := by rw [← hL a (by simp)]; simp [cycN]
        rw [this, List.length_cons, Nat.mul_succ]
        omega
    exact this _ fun x hx => (mem_leads.1 hx).2.2
  rw [← hlen]
  apply Nat.le_antisymm
  · refine len_le_of ?_ fun y hy => ?_
    · unfold List.Nodup
      rw [List.pairwise_flatMap]
      refine ⟨fun a ha => cycN_nodup hc (mem_leads.1 ha).1, leads_nodup.imp_of_mem fun {a b} ha hb hab x hx y hy e => ?_⟩
      subst e
      obtain ⟨a1, a2, a3⟩ := mem_leads.1 ha
      obtain ⟨b1, b2, b3⟩ := mem_leads.1 hb
      have hx' := (cycN_mem hc a1).1 hx
      have hy' := (cycN_mem hc b1).1 hy
      have q1 := a2 b (hx'.trans (hy'.symm hc b1))
      have q2 := b2 a (hy'.trans (hx'.symm hc a1))
      exact hab (Nat.le_antisymm q1 q2)
    · obtain ⟨a, ha, hy⟩ := List.mem_flatMap.1 hy
      obtain ⟨a1, a2, a3⟩ := mem_leads.1 ha
      have hy' := (cycN_mem hc a1).1 hy
      refine mem_elems.2 ⟨?_, by rw [inC_ordr hc a1 hy', a3]⟩
      obtain ⟨k, rfl⟩ := hy'
      exact it_lt hc a1 k
  · refine len_le_of elems_nodup fun x hx => ?_
    obtain ⟨h1, h2⟩ := mem_elems.1 hx
    obtain ⟨y, hy, hl, hc2⟩ := lead_ex hc h1
    exact List.mem_flatMap.2 ⟨y, mem_leads.2 ⟨hy, hl, by rw [← inC_ordr hc hy hc2, h2]⟩, (cycN_mem hc hy).2 hc2⟩
theorem leads_zero (hc : IsP n c c') : leads n c 0 = [] := by
  refine List.eq_nil_iff_forall_not_mem.2 fun x hx => ?_
  obtain ⟨h1, h2, h3⟩ := mem_leads.1 hx
  have := (ordr_spec hc h1).1
  omega
theorem conj_leads (hc : IsP n c c') (hd : IsP n d d') (hh : IsP n h h') (k : Conj n c d h) (m : Nat) : (leads n c m).length = (leads n d m).length := by
  rcases Nat.eq_zero_or_pos m with rfl | hm
  · rw [leads_zero hc, leads_zero hd]
  · have a := leads_count hc m
    have b := leads_count hd m
    rw [conj_count hc hd hh k m, ← b] at a
    exact Nat.eq_of_mul_eq_mul_left hm a
end
/-! ### Quotients rounded down -/
def FloorIs (p q k : Int) : Prop := ∃ m, p = k * q + m ∧ (0 < q → 0 ≤ m ∧ m < q) ∧ (q < 0 → q < m ∧ m ≤ 0)
theorem floor_one {p q k k' : Int} (hq : q ≠ 0) (h : FloorIs p q k) (h' : FloorIs p q k') : k = k' := by
  obtain ⟨m, e, h1, h2⟩ := h
  obtain ⟨m', e', h1', h2'⟩ := h'
  have hd : (k - k') * q = m' - m := by rw [Int.sub_mul]; omega
  rcases Int.lt_trichotomy k k' with a | a | a
  · exfalso
    rcases Int.lt_trichotomy q 0 with b | b | b
    · have : (k' - k - 1) * (-q) ≥ 0 := Int.mul_nonneg (by omega) (by omega)
      have e3 : (k' - k - 1) * (-q) = (k - k') * q + q := by grind
      have := h2 b
      have := h2' b
      omega
    · exact hq b
    · have : (k' - k - 1) * q ≥ 0 := Int.mul_nonneg (by omega) (by omega)
      have e3 : (k' - k - 1) * q = -((k - k') * q) - q := by grind
      have := h1 b
      have := h1' b
      omega
  · exact a
  · exfalso
    rcases Int.lt_trichotomy q 0 with b | b | b
    · have : (k - k' - 1) * (-q) ≥ 0 := Int.mul_nonneg (by omega) (by omega)
      have e3 : (k - k' - 1) * (-q) = -((k - k') * q) + q := by grind
      have := h2 b
      have := h2' b
      omega
    · exact hq b
    · have : (k - k' - 1) * q ≥ 0 := Int.mul_nonneg (by omega) (by omega)
      have e3 : (k - k' - 1) * q = (k - k') * q - q := by grind
      have := h1 b
      have := h1' b
      omega
end Go.PI
/- DIRECTIONS: numbers, and how the squares are cut anew. -/
open Go.Proofs
namespace Go.PI
open IM
set_option maxRecDepth 10000
set_option maxHeartbeats 4000000
theorem tqm {p q : Int} (hq : q ≠ 0) : p = q * p.tdiv q + p.tmod q ∧ (0 ≤ p → 0 ≤ p.tmod q) ∧ (p ≤ 0 → p.tmod q ≤ 0) ∧ (p.tmod q).natAbs < q.natAbs ∧ (p.tdiv q).natAbs ≤ p.natAbs := by
  refine ⟨(Int.mul_tdiv_add_tmod p q).symm, fun h => Int.tmod_nonneg _ h, fun h => ?_, ?_, ?_⟩
  · have := Int.tmod_nonneg q (show 0 ≤ -p by omega)
    rw [Int.neg_tmod] at this
    omega
  · rw [Int.natAbs_tmod]; exact Nat.mod_lt _ (by omega)
  · rw [Int.natAbs_tdiv]; exact Nat.div_le_self _ _
open Classical in
noncomputable def floorZ (p q : Int) : Int := if h : ∃ k, FloorIs p q k then h.choose else 0
theorem floorZ_is {p q k : Int} (hq : q ≠ 0) (h : FloorIs p q k) : floorZ p q = k := by
  have he : ∃ k, FloorIs p q k := ⟨k, h⟩
  unfold floorZ
  rw [dif_pos he]
  exact floor_one hq he.choose_spec h
theorem floor_size {p q k : Int} (hq : q ≠ 0) (h : FloorIs p q k) (hp : p.natAbs ≤ 1000) (hq2 : q.natAbs ≤ 1000) : k.natAbs ≤ 2000 ∧ (k * q).natAbs ≤ 2000 ∧ (p - k * q).natAbs < q.natAbs := by
  obtain ⟨m, e, h1, h2⟩ := h
  have h3 : (k * q).natAbs ≤ 2000 := by
    rcases Int.lt_or_gt_of_ne hq with a | a
    · have := h2 a; omega
    · have := h1 a; omega
  have h4 : k.natAbs ≤ (k * q).natAbs := by
    rw [Int.natAbs_mul]
    exact Nat.le_mul_of_pos_right _ (by omega)
  refine ⟨by omega, h3, ?_⟩
  rcases Int.lt_or_gt_of_ne hq with a | a
  · have := h2 a; omega
  · have := h1 a; omega
/-! ### The state of the descent -/
structure TS where
  f : Nat → Nat
  f' : Nat → Nat
  g : Nat → Nat
  g' : Nat → Nat
  p : Int
  q : Int
def shf (f f' : Nat → Nat) (k : Int) : Nat → Nat := if 0 ≤ k then it f k.toNat else it f' (-k).toNat
noncomputable def TS.step (s : TS) : TS :=
  { f := fun i => shf s.f s.f' (floorZ s.p s.q) (s.g i), f' := fun i => s.g' (shf s.f' s.f (floorZ s.p s.q) i), g := s.f', g' := s.f, p := s.q, q := -(s.p - floorZ s.p s.q * s.q) }
noncomputable def TS.iter : Nat → TS → TS
  | 0, s => s
  | n + 1, s => (TS.iter n s).step
noncomputable def TS.fin (s : TS) : TS := if s.p < 0 then { s with f := s.f', f' := s.f, g := s.g', g' := s.g } else s
structure TS.Ok (n : Nat) (s : TS) : Prop where
  pr : IsP n s.f s.f'
  pu : IsP n s.g s.g'
theorem it_isP {n : Nat} {f f' : Nat → Nat} (h : IsP n f f') (k : Nat) : IsP n (it f k) (it f' k) := ⟨fun i hi => it_lt h hi k, fun i hi => it_lt h.inv hi k, fun i hi => by
      induction k with
      | zero => rfl
      | succ k ih => rw [show it f (k + 1) i = f (it f k i) from rfl, it_succ', h.gf _ (it_lt h hi k), ih], fun i hi => by
      induction k with
      | zero => rfl
      | succ k ih => rw [show it f' (k + 1) i = f' (it f' k i) from rfl, it_succ', h.fg _ (it_lt h.inv hi k), ih]⟩
theorem shf_isP {n : Nat} {f f' : Nat → Nat} (h : IsP n f f') (k : Int) : IsP n (shf f f' k) (shf f' f k) := by
  unfold shf
  split
  · exact it_isP h _
  · exact it_isP h.inv _
theorem TS.Ok.step {n : Nat} {s : TS} (h : s.Ok n) : s.step.Ok n := ⟨h.pu.comp (shf_isP h.pr _), h.pr.inv⟩
theorem TS.Ok.iter {n : Nat} {s : TS} (h : s.Ok n) : ∀ k, (TS.iter k s).Ok n
  | 0 => h
  | k + 1 => (h.iter k).step
theorem TS.Ok.fin {n : Nat} {s : TS} (h : s.Ok n) : s.fin.Ok n := by
  unfold TS.fin
  split
  · exact ⟨h.pr.inv, h.pu.inv⟩
  · exact h
def TS.cm (s : TS) : Nat → Nat := cmf s.f s.f' s.g s.g'
def TS.ci (s : TS) : Nat → Nat := cmi s.f s.f' s.g s.g'
theorem TS.Ok.cm {n : Nat} {s : TS} (h : s.Ok n) : IsP n s.cm s.ci := ((h.pr.inv.comp h.pu.inv).comp h.pr).comp h.pu
/-- shifts go with each other -/
theorem it_comm {n : Nat} {f f' : Nat → Nat} (h : IsP n f f') {x : Nat} (hx : x < n) : ∀ k, it f' k (f x) = f (it f' k x)
  | 0 => rfl
  | k + 1 => by
    have hk := it_lt h.inv hx k
    rw [show it f' (k + 1) (f x) = f' (it f' k (f x)) from rfl, it_comm h hx k, h.gf _ hk]
    show it f' k x = f (f' (it f' k x))
    rw [h.fg _ hk]
theorem it_self (f : Nat → Nat) (k x : Nat) : it f k (f x) = f (it f k x) := by rw [← it_succ']; rfl
theorem shf_comm {n : Nat} {f f' : Nat → Nat} (h : IsP n f f') {x : Nat} (hx : x < n) (k : Int) : shf f' f k (f' x) = f' (shf f' f k x) := by
  unfold shf
  split
  · exact it_self f' _ x
  · exact it_comm h.inv hx _
theorem step_leads {n : Nat} {s : TS} (h : s.Ok n) (m : Nat) : (leads n s.step.cm m).length = (leads n s.cm m).length := by
  obtain ⟨k, hk⟩ : ∃ k, floorZ s.p s.q = k := ⟨_, rfl⟩
  have hsh := shf_isP h.pr k
  -- cut anew
  let G : Nat → Nat := fun i => shf s.f s.f' k (s.g i)
  let G' : Nat → Nat := fun i => s.g' (shf s.f' s.f k i)
  have hG : IsP n G G' := h.pu.comp hsh
  have h1 : IsP n (cmf s.f s.f' G G') (cmi s.f s.f' G G') := ((h.pr.inv.comp hG.inv).comp h.pr).comp hG
  have c1 : Conj n s.cm (cmf s.f s.f' G G') (shf s.f s.f' k) := fun x hx => by
    show shf s.f s.f' k (s.g (s.f (s.g' (shf s.f' s.f k (s.f' (shf s.f s.f' k x)))))) = shf s.f s.f' k (s.g (s.f (s.g' (s.f' x))))
    rw [shf_comm h.pr (hsh.lt x hx) k, hsh.gf x hx]
  have c2 : Conj n (cmf s.f s.f' G G') s.step.cm s.f' := fun x hx => by
    show cmf s.step.f s.step.f' s.step.g s.step.g' (s.f' x) = s.f' (cmf s.f s.f' G G' x)
    unfold TS.step
    rw [hk]
    rfl
  rw [← conj_leads h1 h.step.cm h.pr.inv c2 m, ← conj_leads h.cm h1 hsh c1 m]
theorem iter_leads {n : Nat} {s : TS} (h : s.Ok n) (m : Nat) : ∀ k, (leads n (TS.iter k s).cm m).length = (leads n s.cm m).length
  | 0 => rfl
  | k + 1 => by
    show (leads n (TS.iter k s).step.cm m).length = _
    rw [step_leads (h.iter k) m, iter_leads h m k]
theorem fin_leads {n : Nat} {s : TS} (h : s.Ok n) (m : Nat) : (leads n s.fin.cm m).length = (leads n s.cm m).length := by
  have hf := h.fin
  unfold TS.fin at hf ⊢
  split
  · rename_i hp
    rw [if_pos hp] at hf
    refine (conj_leads h.cm hf.cm (h := fun i => s.g' (s.f' i)) (h' := fun i => s.f (s.g i)) (h.pr.inv.comp h.pu.inv) (fun x hx => ?_) m).symm
    show s.g' (s.f' (s.g (s.f (s.g' (s.f' x))))) = s.g' (s.f' (s.g (s.f (s.g' (s.f' x)))))
    rfl
  · rfl
/-- the first time that q is 0 -/
def Ends (s : TS) (k : Nat) : Prop := (∀ j, j < k → (TS.iter j s).q ≠ 0) ∧ (TS.iter k s).q = 0
theorem ends_one {s : TS} {k k' : Nat} (h : Ends s k) (h' : Ends s k') : k = k' := by
  rcases Nat.lt_trichotomy k k' with a | a | a
  · exact absurd h.2 (h'.1 _ a)
  · exact a
  · exact absurd h'.2 (h.1 _ a)
end Go.PI
/- DIRECTIONS: numbers, of the program and of the reference. -/
open Go.Proofs
namespace Go.PI
open IM
set_option maxRecDepth 10000
set_option maxHeartbeats 4000000
variable (S : FuncId → Option (List AV → Heap → Option (AV × Heap)))
theorem gcd_step {a b : Int} (hb : b ≠ 0) : Nat.gcd b.natAbs (a.tmod b).natAbs = Nat.gcd a.natAbs b.natAbs := by
  rw [Int.natAbs_tmod, Nat.gcd_comm b.natAbs, ← Nat.gcd_rec, Nat.gcd_comm]
theorem tdiv_mul {k q : Int} (hq : q ≠ 0) : (k * q).tdiv q = k := Int.mul_tdiv_cancel _ hq
theorem floor_ex {p q : Int} (hq : q ≠ 0) : ∃ k, FloorIs p q k := by
  obtain ⟨t1, t2, t3, t4, t5⟩ := tqm (p := p) hq
  have hc : q * p.tdiv q = p.tdiv q * q := Int.mul_comm _ _
  by_cases h : (0 < q → 0 ≤ p.tmod q) ∧ (q < 0 → p.tmod q ≤ 0)
  · exact ⟨p.tdiv q, p.tmod q, by omega, fun c => ⟨h.1 c, by omega⟩, fun c => ⟨by omega, h.2 c⟩⟩
  · refine ⟨p.tdiv q - 1, p.tmod q + q, by rw [Int.sub_mul]; omega, fun c => ?_, fun c => ?_⟩
    · have : ¬ 0 ≤ p.tmod q := fun hh => h ⟨fun _ => hh, fun d => by omega⟩
      omega
    · have : ¬ p.tmod q ≤ 0 := fun hh => h ⟨fun d => by omega, fun _ => hh⟩
      omega
theorem floor_neg {p q : Int} (hq : q < 0) : floorZ (-p) (-q) = floorZ p q := by
  obtain ⟨k, hk⟩ := floor_ex (p := p) (q := q) (by omega)
  rw [floorZ_is (by omega) hk]
  obtain ⟨m, e, h1, h2⟩ := hk
  have := h2 hq
  exact floorZ_is (by omega) ⟨-m, by rw [Int.mul_neg]; omega, fun c => by omega, fun c => by omega⟩
end Go.PI
