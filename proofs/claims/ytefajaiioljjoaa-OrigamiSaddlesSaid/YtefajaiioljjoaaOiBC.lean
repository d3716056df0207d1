/- Own work of the verifier: OgBfs OgLabM OgR OgS. -/
import Derived.Test.YtefajaiioljjoaaOiAX
import Derived.Test.YtefajaiioljjoaaOiBA
set_option linter.all false
set_option exponentiation.threshold 3000
set_option linter.deprecated false
/- SQUARES in the order in which they are reached. -/
namespace Go.PI
def addL (xs : List Nat) (x : Nat) : List Nat := if x ∈ xs then xs else xs ++ [x]
theorem addL_mem {xs : List Nat} {x y : Nat} : y ∈ addL xs x ↔ y ∈ xs ∨ y = x := by
  unfold addL
  by_cases h : x ∈ xs
  · rw [if_pos h]
    exact ⟨.inl, fun a => by rcases a with a | rfl; exact a; exact h⟩
  · rw [if_neg h]; simp
theorem addL_nodup {xs : List Nat} {x : Nat} (h : xs.Nodup) : (addL xs x).Nodup := by
  unfold addL
  by_cases hx : x ∈ xs
  · rw [if_pos hx]; exact h
  · rw [if_neg hx]
    exact List.nodup_append.2 ⟨h, by simp, fun a ha b hb => by rw [List.mem_singleton.1 hb]; rintro rfl; exact hx ha⟩
theorem addL_pre {xs : List Nat} {x : Nat} : xs <+: addL xs x := by
  unfold addL
  by_cases hx : x ∈ xs
  · rw [if_pos hx]; exact List.prefix_refl _
  · rw [if_neg hx]; exact List.prefix_append _ _
theorem addL_get {xs : List Nat} {x y p : Nat} (h : (addL xs x)[p]? = some y) : xs[p]? = some y ∨ (p = xs.length ∧ y = x) := by
  unfold addL at h
  by_cases hx : x ∈ xs
  · rw [if_pos hx] at h; exact .inl h
  · rw [if_neg hx] at h
    rcases Nat.lt_trichotomy p xs.length with a | a | a
    · rw [List.getElem?_append_left a] at h; exact .inl h
    · subst a; simp at h; exact .inr ⟨rfl, h.symm⟩
    · rw [List.getElem?_eq_none (by simp; omega)] at h; cases h
section
variable (f g : Nat → Nat) (s : Nat)
def nxt (xs : List Nat) (i : Nat) : List Nat :=
  match xs[i]? with
  | some x => addL (addL xs (f x)) (g x)
  | none => xs
def bfs : Nat → List Nat
  | 0 => [s]
  | i + 1 => nxt f g (bfs i) i
/-- reached by some steps -/
inductive Rch : Nat → Prop
  | refl : Rch s
  | f {y : Nat} (h : Rch y) : Rch (f y)
  | g {y : Nat} (h : Rch y) : Rch (g y)
/-- reached by at most k steps -/
def RchK : Nat → Nat → Prop
  | 0, y => y = s
  | k + 1, y => RchK k y ∨ ∃ z, RchK k z ∧ (y = f z ∨ y = g z)
end
section
variable {f g : Nat → Nat} {s : Nat}
theorem nxt_at {xs : List Nat} {i x : Nat} (h : xs[i]? = some x) : nxt f g xs i = addL (addL xs (f x)) (g x) := by unfold nxt; rw [h]
theorem nxt_pre {xs : List Nat} {i : Nat} : xs <+: nxt f g xs i := by
  unfold nxt
  split
  · exact List.IsPrefix.trans addL_pre addL_pre
  · exact List.prefix_refl _
theorem bfs_pre : ∀ (k : Nat) {i : Nat}, bfs f g s i <+: bfs f g s (i + k)
  | 0, _ => List.prefix_refl _
  | k + 1, i => List.IsPrefix.trans (bfs_pre k) (show bfs f g s (i + k) <+: nxt f g (bfs f g s (i + k)) (i + k) from nxt_pre)
theorem bfs_nodup : ∀ i, (bfs f g s i).Nodup
  | 0 => by simp [bfs]
  | i + 1 => by
    show (nxt f g (bfs f g s i) i).Nodup
    unfold nxt
    split
    · exact addL_nodup (addL_nodup (bfs_nodup i))
    · exact bfs_nodup i
theorem bfs_lt {n : Nat} {f' g' : Nat → Nat} (pf : IsP n f f') (pg : IsP n g g') (hs : s < n) : ∀ i, ∀ y ∈ bfs f g s i, y < n
  | 0, y, hy => by rw [List.mem_singleton.1 hy]; exact hs
  | i + 1, y, hy => by
    have ih := bfs_lt pf pg hs i
    change y ∈ nxt f g (bfs f g s i) i at hy
    unfold nxt at hy
    split at hy
    · rename_i x hx
      have hxn := ih x (List.mem_of_getElem? hx)
      rcases addL_mem.1 hy with hy | rfl
      · rcases addL_mem.1 hy with hy | rfl
        · exact ih y hy
        · exact pf.lt x hxn
      · exact pg.lt x hxn
    · exact ih y hy
theorem bfs_len {n : Nat} {f' g' : Nat → Nat} (pf : IsP n f f') (pg : IsP n g g') (hs : s < n) (i : Nat) : (bfs f g s i).length ≤ n := by
  have := len_le_of (bfs_nodup (f := f) (g := g) (s := s) i) (m := List.range n) fun y hy => List.mem_range.2 (bfs_lt pf pg hs i y hy)
  rwa [List.length_range] at this
theorem bfs_get {i p k y : Nat} (h : (bfs f g s i)[p]? = some y) : (bfs f g s (i + k))[p]? = some y := by
  obtain ⟨t, ht⟩ := bfs_pre (f := f) (g := g) (s := s) k (i := i)
  rw [← ht, List.getElem?_append_left (List.getElem?_eq_some_iff.1 h).1]
  exact h
theorem bfs_mem {i k y : Nat} (h : y ∈ bfs f g s i) : y ∈ bfs f g s (i + k) := (bfs_pre (f := f) (g := g) (s := s) k (i := i)).subset h
/-- those that have been gone through -/
theorem bfs_steps {i p y : Nat} (hp : p < i) (h : (bfs f g s i)[p]? = some y) : f y ∈ bfs f g s i ∧ g y ∈ bfs f g s i := by
  have hy : (bfs f g s p)[p]? = some y ∨ p ≥ (bfs f g s p).length := by
    rcases Nat.lt_or_ge p (bfs f g s p).length with a | a
    · obtain ⟨z, hz⟩ : ∃ z, (bfs f g s p)[p]? = some z := ⟨_, List.getElem?_eq_getElem a⟩
      have := bfs_get (k := i - p) hz
      rw [show p + (i - p) = i by omega, h] at this
      cases this
      exact .inl hz
    · exact .inr a
  rcases hy with hy | hy
  · have e : bfs f g s (p + 1) = addL (addL (bfs f g s p) (f y)) (g y) := nxt_at hy
    have h1 : f y ∈ bfs f g s (p + 1) := by rw [e, addL_mem, addL_mem]; exact .inl (.inr rfl)
    have h2 : g y ∈ bfs f g s (p + 1) := by rw [e, addL_mem]; exact .inr rfl
    have a := bfs_mem (k := i - (p + 1)) h1
    have b := bfs_mem (k := i - (p + 1)) h2
    rw [show p + 1 + (i - (p + 1)) = i by omega] at a b
    exact ⟨a, b⟩
  · exfalso
    have hst : ∀ k, bfs f g s (p + k) = bfs f g s p := by
      intro k
      induction k with
      | zero => rfl
      | succ k ih =>
        show nxt f g (bfs f g s (p + k)) (p + k) = _
        rw [ih]
        unfold nxt
        rw [List.getElem?_eq_none (by omega)]
    have := hst (i - p)
    rw [show p + (i - p) = i by omega] at this
    rw [this, List.getElem?_eq_none hy] at h
    cases h
theorem bfs_stop {k : Nat} (h : (bfs f g s k).length ≤ k) : ∀ m, bfs f g s (k + m) = bfs f g s k
  | 0 => rfl
  | m + 1 => by
    show nxt f g (bfs f g s (k + m)) (k + m) = _
    rw [bfs_stop h m]
    unfold nxt
    rw [List.getElem?_eq_none (by omega)]
/-- all that are reached -/
theorem bfs_all {k : Nat} (h : (bfs f g s k).length ≤ k) {y : Nat} (hy : Rch f g s y) : y ∈ bfs f g s k := by
  induction hy with
  | refl =>
    have := bfs_mem (k := k) (show s ∈ bfs f g s 0 by simp [bfs])
    rwa [Nat.zero_add] at this
  | f _ ih =>
    obtain ⟨p, hp⟩ := List.getElem?_of_mem ih
    have := (List.getElem?_eq_some_iff.1 hp).1
    exact (bfs_steps (by omega) hp).1
  | g _ ih =>
    obtain ⟨p, hp⟩ := List.getElem?_of_mem ih
    have := (List.getElem?_eq_some_iff.1 hp).1
    exact (bfs_steps (by omega) hp).2
theorem rchK_mono {k y : Nat} : ∀ m, RchK f g s k y → RchK f g s (k + m) y
  | 0, h => h
  | m + 1, h => .inl (rchK_mono m h)
theorem rchK_rch : ∀ {k y : Nat}, RchK f g s k y → Rch f g s y
  | 0, _, h => by rw [show _ = s from h]; exact .refl
  | k + 1, y, h => by
    rcases h with h | ⟨z, h, rfl | rfl⟩
    · exact rchK_rch h
    · exact .f (rchK_rch h)
    · exact .g (rchK_rch h)
/-- where one stands, it is reached within as many steps -/
theorem bfs_dist : ∀ (i p y : Nat), (bfs f g s i)[p]? = some y → RchK f g s p y
  | 0, p, y, h => by
    cases p with
    | zero => simp [bfs] at h; exact h.symm
    | succ p => simp [bfs] at h
  | i + 1, p, y, h => by
    change (nxt f g (bfs f g s i) i)[p]? = some y at h
    unfold nxt at h
    split at h
    · rename_i x hx
      have hxi := (List.getElem?_eq_some_iff.1 hx).1
      have hxd := bfs_dist i i x hx
      rcases addL_get h with h | ⟨hp, rfl⟩
      · rcases addL_get h with h | ⟨hp, rfl⟩
        · exact bfs_dist i p y h
        · have : RchK f g s (i + 1) (f x) := .inr ⟨x, hxd, .inl rfl⟩
          have := rchK_mono (p - (i + 1)) this
          rwa [show i + 1 + (p - (i + 1)) = p by omega] at this
      · have h1 : (bfs f g s i).length ≤ (addL (bfs f g s i) (f x)).length := (addL_pre (xs := bfs f g s i) (x := f x)).length_le
        have : RchK f g s (i + 1) (g x) := .inr ⟨x, hxd, .inr rfl⟩
        have := rchK_mono (p - (i + 1)) this
        rwa [show i + 1 + (p - (i + 1)) = p by omega] at this
    · exact bfs_dist i p y h
theorem bfs_rch {i y : Nat} (h : y ∈ bfs f g s i) : Rch f g s y := by
  obtain ⟨p, hp⟩ := List.getElem?_of_mem h
  exact rchK_rch (bfs_dist i p y hp)
theorem bfs_iff {k : Nat} (h : (bfs f g s k).length ≤ k) {y : Nat} : y ∈ bfs f g s k ↔ Rch f g s y := ⟨bfs_rch, bfs_all h⟩
theorem Rch.trans {y z : Nat} (a : Rch f g s y) (b : Rch f g y z) : Rch f g s z := by
  induction b with
  | refl => exact a
  | f _ ih => exact .f ih
  | g _ ih => exact .g ih
theorem Rch.itf {k y : Nat} (h : Rch f g s y) : Rch f g s (it f k y) := by
  induction k with
  | zero => exact h
  | succ k ih => exact .f ih
theorem Rch.itg {k y : Nat} (h : Rch f g s y) : Rch f g s (it g k y) := by
  induction k with
  | zero => exact h
  | succ k ih => exact .g ih
theorem rch_lt {n : Nat} {f' g' : Nat → Nat} (pf : IsP n f f') (pg : IsP n g g') (hs : s < n) {y : Nat} (h : Rch f g s y) : y < n := by
  induction h with
  | refl => exact hs
  | f _ ih => exact pf.lt _ ih
  | g _ ih => exact pg.lt _ ih
theorem Rch.symm {n : Nat} {f' g' : Nat → Nat} (pf : IsP n f f') (pg : IsP n g g') (hs : s < n) {y : Nat} (h : Rch f g s y) : Rch f g y s := by
  induction h with
  | refl => exact .refl
  | @f z hz ih =>
    have hzn := rch_lt pf pg hs hz
    obtain ⟨k, hk⟩ := InC.symm pf hzn (⟨1, rfl⟩ : InC f z (f z))
    exact (show Rch f g (f z) z by have := Rch.itf (g := g) (k := k) (.refl : Rch f g (f z) (f z)); rwa [hk] at this).trans ih
  | @g z hz ih =>
    have hzn := rch_lt pf pg hs hz
    obtain ⟨k, hk⟩ := InC.symm pg hzn (⟨1, rfl⟩ : InC g z (g z))
    exact (show Rch f g (g z) z by have := Rch.itg (f := f) (k := k) (.refl : Rch f g (g z) (g z)); rwa [hk] at this).trans ih
end
/-- connected -/
def Conn (n : Nat) (f g : Nat → Nat) : Prop := ∀ y, y < n → Rch f g 0 y
theorem conn_len {n : Nat} {f f' g g' : Nat → Nat} (pf : IsP n f f') (pg : IsP n g g') (h0 : 0 < n) {k : Nat} (h : (bfs f g 0 k).length ≤ k) : (bfs f g 0 k).length = n ↔ Conn n f g := by
  have hle := bfs_len pf pg h0 k
  constructor
  · intro e y hy
    rw [← bfs_iff h]
    refine Classical.byContradiction fun hc => ?_
    have := len_le_of (List.nodup_cons.2 ⟨hc, bfs_nodup k⟩) (m := List.range n) fun z hz => by
      rcases List.mem_cons.1 hz with rfl | hz
      · exact List.mem_range.2 hy
      · exact List.mem_range.2 (bfs_lt pf pg h0 k z hz)
    simp only [List.length_cons, List.length_range] at this
    omega
  · intro hc
    have := len_le_of (l := List.range n) (m := bfs f g 0 k) (by unfold List.Nodup; exact List.pairwise_lt_range.imp fun h e => by omega) fun y hy => (bfs_iff h).2 (hc y (List.mem_range.1 hy))
    rw [List.length_range] at this
    omega
end Go.PI
/- NUMBERINGS AND LABELS: what they are. -/
namespace Go.PI
set_option maxRecDepth 10000
set_option maxHeartbeats 4000000
def es (f g : Nat → Nat) (n s k : Nat) : Nat := (bfs f g s n).getD k 0
def ei (f g : Nat → Nat) (n s x : Nat) : Nat := (bfs f g s n).idxOf x
theorem bfs_full {n s : Nat} {f f' g g' : Nat → Nat} (pf : IsP n f f') (pg : IsP n g g') (h0 : 0 < n) (hs : s < n) (hc : Conn n f g) : (bfs f g s n).length = n ∧ ∀ y, y < n → y ∈ bfs f g s n := by
  have hle := bfs_len pf pg hs n
  have hall : ∀ y, y < n → y ∈ bfs f g s n := fun y hy => bfs_all hle (((hc s hs).symm pf pg h0).trans (hc y hy))
  have := len_le_of (l := List.range n) (m := bfs f g s n) (by unfold List.Nodup; exact List.pairwise_lt_range.imp fun h e => by omega) fun y hy => hall y (List.mem_range.1 hy)
  rw [List.length_range] at this
  exact ⟨by omega, hall⟩
theorem es_get {n s k : Nat} {f f' g g' : Nat → Nat} (pf : IsP n f f') (pg : IsP n g g') (h0 : 0 < n) (hs : s < n) (hc : Conn n f g) (hk : k < n) : (bfs f g s n)[k]? = some (es f g n s k) := by
  have hl := (bfs_full pf pg h0 hs hc).1
  unfold es
  rw [List.getD_eq_getElem?_getD, List.getElem?_eq_getElem (show k < (bfs f g s n).length by omega)]
  rfl
theorem es_perm {n s : Nat} {f f' g g' : Nat → Nat} (pf : IsP n f f') (pg : IsP n g g') (h0 : 0 < n) (hs : s < n) (hc : Conn n f g) : IsP n (es f g n s) (ei f g n s) := by
  obtain ⟨hl, hall⟩ := bfs_full pf pg h0 hs hc
  have hnd : (bfs f g s n).Nodup := bfs_nodup n
  have hget := fun k hk => es_get (k := k) pf pg h0 hs hc hk
  have hlt : ∀ k, k < n → es f g n s k < n := fun k hk => bfs_lt pf pg hs n _ (List.mem_of_getElem? (hget k hk))
  have hidx : ∀ y, y < n → ei f g n s y < n := fun y hy => by
    have := List.idxOf_lt_length_of_mem (hall y hy)
    unfold ei; omega
  have hfg : ∀ y, y < n → es f g n s (ei f g n s y) = y := fun y hy => by
    have h1 := hget _ (hidx y hy)
    have h2 : (bfs f g s n)[(bfs f g s n).idxOf y]? = some y := by
      rw [List.getElem?_eq_getElem (List.idxOf_lt_length_of_mem (hall y hy)), List.getElem_idxOf]
    have h3 : (bfs f g s n)[ei f g n s y]? = some y := h2
    rw [h1] at h3
    exact Option.some.inj h3
  refine ⟨hlt, hidx, fun k hk => ?_, hfg⟩
  have e := hfg _ (hlt k hk)
  have h1 := hget _ (hidx _ (hlt k hk))
  rw [e, ← hget k hk] at h1
  exact (List.getElem?_inj (by have := hidx _ (hlt k hk); omega) hnd).1 h1
/-- while not all are reached there is one more to go on from -/
theorem bfs_more {n s i : Nat} {f f' g g' : Nat → Nat} (pf : IsP n f f') (pg : IsP n g g') (h0 : 0 < n) (hs : s < n) (hc : Conn n f g) (hi : i < n) : i < (bfs f g s i).length := by
  refine Nat.lt_of_not_le fun hle => ?_
  have := bfs_stop hle (n - i)
  rw [show i + (n - i) = n by omega] at this
  have h2 := (bfs_full pf pg h0 hs hc).1
  rw [this] at h2
  omega
theorem bfs_idx {n s i y : Nat} {f g : Nat → Nat} (hi : i ≤ n) (h : y ∈ bfs f g s i) : (bfs f g s i).idxOf y = ei f g n s y := by
  obtain ⟨t, ht⟩ := bfs_pre (f := f) (g := g) (s := s) (n - i) (i := i)
  rw [show i + (n - i) = n by omega] at ht
  unfold ei
  rw [← ht, List.idxOf_append, if_pos h]
/-- the place of step f after the numbering e -/
def rn (e e' f : Nat → Nat) (k : Nat) : Nat := e' (f (e k))
def Lt (xs ys : List Int) : Prop := ∃ k a b, xs.take k = ys.take k ∧ xs[k]? = some a ∧ ys[k]? = some b ∧ a < b
theorem take_get {xs ys : List Int} {k i : Nat} (h : xs.take k = ys.take k) (hi : i < k) : xs[i]? = ys[i]? := by
  have := congrArg (fun l : List Int => l[i]?) h
  simp only [List.getElem?_take, if_pos hi] at this
  exact this
theorem lt_at {xs ys : List Int} {k : Nat} {a b : Int} (h : xs.take k = ys.take k) (ha : xs[k]? = some a) (hb : ys[k]? = some b) (hne : a ≠ b) : Lt xs ys ↔ a < b := by
  constructor
  · rintro ⟨k', a', b', h', ha', hb', hlt⟩
    rcases Nat.lt_trichotomy k' k with e | e | e
    · have := take_get h e
      rw [ha', hb'] at this
      have := Option.some.inj this
      omega
    · subst e
      rw [ha] at ha'; rw [hb] at hb'
      have := Option.some.inj ha'
      have := Option.some.inj hb'
      omega
    · have := take_get h' e
      rw [ha, hb] at this
      exact absurd (Option.some.inj this) hne
  · exact fun hlt => ⟨k, a, b, h, ha, hb, hlt⟩
theorem lt_irr {xs : List Int} : ¬ Lt xs xs := by
  rintro ⟨k, a, b, -, ha, hb, hlt⟩
  rw [ha] at hb
  have := Option.some.inj hb
  omega
theorem first_diff : ∀ {xs ys : List Int}, xs.length = ys.length → xs ≠ ys → ∃ k a b, xs.take k = ys.take k ∧ xs[k]? = some a ∧ ys[k]? = some b ∧ a ≠ b
  | [], [], _, h => absurd rfl h
  | [], _ :: _, h, _ => by simp at h
  | _ :: _, [], h, _ => by simp at h
  | x :: xs, y :: ys, hl, hne => by
    by_cases e : x = y
    · subst e
      obtain ⟨k, a, b, h1, h2, h3, h4⟩ := first_diff (xs := xs) (ys := ys) (by simpa using hl) (fun e => hne (by rw [e]))
      exact ⟨k + 1, a, b, by simp [h1], by simpa using h2, by simpa using h3, h4⟩
    · exact ⟨0, x, y, rfl, rfl, rfl, e⟩
theorem lt_app {R R' U U' : List Int} (h1 : R.length = R'.length) (h2 : U.length = U'.length) : Lt (R ++ U) (R' ++ U') ↔ Lt R R' ∨ (R = R' ∧ Lt U U') := by
  by_cases hR : R = R'
  · subst hR
    by_cases hU : U = U'
    · subst hU
      exact ⟨fun h => absurd h lt_irr, fun h => by rcases h with h | h; exact absurd h lt_irr; exact absurd h.2 lt_irr⟩
    · obtain ⟨k, a, b, g1, g2, g3, g4⟩ := first_diff h2 hU
      rw [lt_at (k := R.length + k) (a := a) (b := b) (by simp [List.take_append, g1, List.take_of_length_le]) (by rw [List.getElem?_append_right (by omega), show R.length + k - R.length = k by omega]; exact g2) (by rw [List.getElem?_append_right (by omega), show R.length + k - R.length = k by omega]; exact g3) g4, lt_at g1 g2 g3 g4]
      exact ⟨fun h => .inr ⟨rfl, h⟩, fun h => by rcases h with h | h; exact absurd h lt_irr; exact h.2⟩
  · obtain ⟨k, a, b, g1, g2, g3, g4⟩ := first_diff h1 hR
    have l1 := (List.getElem?_eq_some_iff.1 g2).1
    have l2 := (List.getElem?_eq_some_iff.1 g3).1
    rw [lt_at (k := k) (a := a) (b := b) (by rw [List.take_append_of_le_length (by omega), List.take_append_of_le_length (by omega)]; exact g1) (by rw [List.getElem?_append_left l1]; exact g2) (by rw [List.getElem?_append_left l2]; exact g3) g4, lt_at g1 g2 g3 g4]
    exact ⟨.inl, fun h => by rcases h with h | h; exact h; exact absurd h.1 hR⟩
def Rs (f g : Nat → Nat) (n s : Nat) : List Int := PL n (rn (es f g n s) (ei f g n s) f)
def Us (f g : Nat → Nat) (n s : Nat) : List Int := PL n (rn (es f g n s) (ei f g n s) g)
def Bf (f g : Nat → Nat) (n s t : Nat) : Prop := Lt (Rs f g n s ++ Us f g n s) (Rs f g n t ++ Us f g n t)
open Classical in
noncomputable def bst (f g : Nat → Nat) (n : Nat) : Nat → Nat
  | 0 => 0
  | i + 1 => if Bf f g n i (bst f g n i) then i else bst f g n i
open Classical in
theorem bst_yes {f g : Nat → Nat} {n i : Nat} (h : Bf f g n i (bst f g n i)) : bst f g n (i + 1) = i := by
  show (if _ then _ else _) = _
  rw [if_pos h]
open Classical in
theorem bst_no {f g : Nat → Nat} {n i : Nat} (h : ¬ Bf f g n i (bst f g n i)) : bst f g n (i + 1) = bst f g n i := by
  show (if _ then _ else _) = _
  rw [if_neg h]
theorem bst_one {f g : Nat → Nat} {n : Nat} : bst f g n 1 = 0 := bst_no lt_irr
theorem bst_lt {f g : Nat → Nat} {n : Nat} (h0 : 0 < n) : ∀ i, i ≤ n → bst f g n i < n
  | 0, _ => h0
  | i + 1, hi => by
    by_cases h : Bf f g n i (bst f g n i)
    · rw [bst_yes h]; omega
    · rw [bst_no h]; exact bst_lt h0 i (by omega)
theorem Rs_len {f g : Nat → Nat} {n s : Nat} : (Rs f g n s).length = n := PL_len
theorem Us_len {f g : Nat → Nat} {n s : Nat} : (Us f g n s).length = n := PL_len
theorem Rs_ne {f g : Nat → Nat} {n s : Nat} (h : 0 < n) : Rs f g n s ≠ [] := fun e => by
  have := Rs_len (f := f) (g := g) (n := n) (s := s)
  rw [e] at this
  simp at this
  omega
end Go.PI
/- NUMBERINGS of squares, in a store of our own. -/
open Go.Proofs
namespace Go.PI
open IM
set_option maxRecDepth 10000
set_option maxHeartbeats 4000000
variable (S : FuncId → Option (List AV → Heap → Option (AV × Heap)))
def pnn (i : Nat) : PV := pn (i : Int)
def Onum : Opn := ⟨fun t => Nat.beq t 116, fun t => Nat.beq t 116 || Nat.beq t 22, false⟩
/-- a numbering: its block, its map, its list -/
structure Num (σ : List StB) (j m : Nat) (v : PV) (xs : List Nat) : Prop where
  liv : σ[j]? = some (.liv 116 [v, .omap m])
  gr : Gr pnn 3 v σ xs
  mp : ∃ es, σ[m]? = some (.mp .i64 es) ∧ ∀ y : Nat, pmapGet es y = if y ∈ xs then some (pnn (xs.idxOf y)) else none
  ne : xs ≠ []
  jv : blkOf v ≠ some j
  mv : blkOf v ≠ some m
  jm : m ≠ j
/-- what is left alone -/
structure NF (σ σ' : List StB) (j m : Nat) (v v' : PV) : Prop where
  len : σ.length ≤ σ'.length
  keep : ∀ (i : Nat) (b : StB), i ≠ j → i ≠ m → blkOf v ≠ some i → σ[i]? = some b → σ'[i]? = some b
  blk : ∀ i, i < σ.length → blkOf v ≠ some i → blkOf v' ≠ some i
theorem NF.refl (σ : List StB) (j m : Nat) (v : PV) : NF σ σ j m v v := ⟨Nat.le_refl _, fun _ _ _ _ _ h => h, fun _ _ h => h⟩
theorem NF.trans {σ σ' σ'' : List StB} {j m : Nat} {v v' v'' : PV} (a : NF σ σ' j m v v') (b : NF σ' σ'' j m v' v'') : NF σ σ'' j m v v'' :=
  ⟨Nat.le_trans a.len b.len, fun i x h1 h2 h3 h4 => b.keep i x h1 h2 (a.blk i (List.getElem?_eq_some_iff.1 h4).1 h3) (a.keep i x h1 h2 h3 h4), fun i hi h => b.blk i (Nat.lt_of_lt_of_le hi a.len) (a.blk i hi h)⟩
theorem Gr.shape {α : Type} {f : α → PV} {e : TypeId} {v : PV} {σ : List StB} {Xs : List α} (h : Gr f e v σ Xs) (hne : Xs ≠ []) : ∃ jv ty, contOf σ jv = some (ty, Xs.map f) ∧ (v = .own jv 0 Xs.length Xs.length 1 ∨ v = .ownu jv Xs.length 1) := by
  rcases h with ⟨-, h⟩ | ⟨j, ty, rfl, h⟩ | ⟨j, rfl, h⟩
  · exact absurd h hne
  · exact ⟨j, ty, h, .inl rfl⟩
  · exact ⟨j, e, contOf_live h, .inr rfl⟩
theorem Gr.cell {α : Type} {f : α → PV} {e : TypeId} {v : PV} {σ : List StB} {Xs : List α} (h : Gr f e v σ Xs) : v.pcells = [v] ∧ v.one = true := by
  rcases h with ⟨rfl, h⟩ | ⟨j, ty, rfl, h⟩ | ⟨j, rfl, h⟩ <;> exact ⟨rfl, rfl⟩
theorem get_set_map {es : List (Int × PV)} {n k : Int} {v : PV} : pmapGet (pmapSet es n v) k = if k = n then some v else pmapGet es k := by
  induction es with
  | nil =>
    unfold pmapSet pmapGet
    by_cases h : k = n
    · subst h; simp
    · rw [if_neg h]
      have : (n == k) = false := by simpa using fun e => h e.symm
      rw [this]
      rfl
  | cons e es ih =>
    obtain ⟨k0, x⟩ := e
    unfold pmapSet
    cases hb : k0 == n with
    | true =>
      have : k0 = n := by simpa using hb
      subst this
      show pmapGet ((k0, v) :: es) k = _
      unfold pmapGet
      by_cases h : k = k0
      · subst h; simp
      · have : (k0 == k) = false := by simpa using fun e => h e.symm
        rw [this, if_neg h]
    | false =>
      show pmapGet ((k0, x) :: pmapSet es n v) k = _
      unfold pmapGet
      cases hk : k0 == k with
      | true =>
        have : k0 = k := by simpa using hk
        subst this
        have hne : k0 ≠ n := by simpa using hb
        rw [if_neg hne]
      | false => exact ih
theorem idx_new {xs : List Nat} {x : Nat} (h : x ∉ xs) : (xs ++ [x]).idxOf x = xs.length := by
  rw [List.idxOf_append, if_neg h]; simp
theorem idx_old {xs : List Nat} {x y : Nat} (h : y ∈ xs) : (xs ++ [x]).idxOf y = xs.idxOf y := by rw [List.idxOf_append, if_pos h]
theorem fn106 : ctx.fn 106 = some c106 := by kernel_rfl
theorem numberingFrom_cm (hS : OldO S) {σ : List StB} {x : Nat} : Cm (ctx.plus S) 106 [pnn x] σ 3 fun r σ' => ∃ j m v, r = .optr j 0 ∧ Num σ' j m v [x] ∧ (∀ (i : Nat) (b : StB), σ[i]? = some b → σ'[i]? = some b) ∧ σ.length ≤ j ∧ σ.length ≤ m ∧ (∀ i, i < σ.length → blkOf v ≠ some i) := by
  refine cm_of Onum (hS 106 (by decide)) fn106 fun c k0 hc => ?_
  refine ⟨by omega, part1 fzI ⟨[pnn x], rfl, ?_⟩⟩
  refine ⟨by omega, ?_⟩
  refine ⟨[], _, ⟨rfl, push_get⟩, rfl, _, push_set, ?_⟩
  refine ⟨_, rfl, ?_⟩
  refine ⟨by omega, ?_⟩
  refine endm [] (by dsimp only; omega) ?_
  have l1 : (σ ++ [StB.live 3 [pnn x]]).length = σ.length + 1 := by simp
  have l2 : ∀ B, (σ ++ [StB.live 3 [pnn x]] ++ [B]).length = σ.length + 2 := fun B => by simp
  refine ⟨_, _, _, rfl, ⟨push_get, .inr (.inl ⟨σ.length, 3, rfl, ?_⟩), ⟨[((x : Int), pn 0)], push_old (by exact push_get), fun y => ?_⟩, (by simp), ?_, ?_, ?_⟩, fun i b hb => push_old (push_old (push_old hb)), ?_, ?_, fun i hi => ?_⟩
  · exact contOf_app (contOf_app push_cont)
  · unfold pmapGet
    by_cases h : x = y
    · subst h; simp [pnn]
    · have : ((x : Int) == (y : Int)) = false := by simp; omega
      rw [this, if_neg (by simp; exact fun e => h e.symm)]
      rfl
  · show some σ.length ≠ some _
    rw [l2]; intro e; have := Option.some.inj e; omega
  · show some σ.length ≠ some _
    rw [l1]; intro e; have := Option.some.inj e; omega
  · rw [l1, l2]; omega
  · rw [l2]; omega
  · rw [l1]; omega
  · show some σ.length ≠ some i
    intro e; have := Option.some.inj e; omega
theorem addL_in {xs : List Nat} {x : Nat} (h : x ∈ xs) : addL xs x = xs := by unfold addL; rw [if_pos h]
theorem addL_out {xs : List Nat} {x : Nat} (h : x ∉ xs) : addL xs x = xs ++ [x] := by unfold addL; rw [if_neg h]
theorem fn107 : ctx.fn 107 = some c107 := by kernel_rfl
theorem number_cm (hS : OldO S) {σ : List StB} {j m : Nat} {v : PV} {xs : List Nat} {x : Nat} (h : Num σ j m v xs) (hl : xs.length ≤ 1000) :
    Cm (ctx.plus S) 107 [.optr j 0, pnn x] σ 4 fun r σ' => ∃ v', r = pnn ((addL xs x).idxOf x) ∧ Num σ' j m v' (addL xs x) ∧ NF σ σ' j m v v' := by
  refine cm_of Onum (hS 107 (by decide)) fn107 fun c k0 hc => ?_
  obtain ⟨es, hes, hget⟩ := h.mp
  refine ⟨_, load_liv h.liv rfl rfl, ?_⟩
  refine ⟨es, ⟨rfl, hes⟩, fun w hw => ?_, fun hw => ?_⟩
  · have hx : x ∈ xs := Classical.byContradiction fun hc => by
      have e := (hget x).symm.trans hw
      rw [if_neg hc] at e; cases e
    have e := (hget x).symm.trans hw
    rw [if_pos hx] at e
    cases e
    exact endm [] (by dsimp only; omega) ⟨v, by rw [addL_in hx]; rfl, by rw [addL_in hx]; exact h, NF.refl _ _ _ _⟩
  · have hx : x ∉ xs := fun hc => by
      have e := (hget x).symm.trans hw
      rw [if_pos hc] at e; cases e
    have hjm : j ≠ m := fun e => h.jm e.symm
    have hjl := (List.getElem?_eq_some_iff.1 h.liv).1
    have hml := (List.getElem?_eq_some_iff.1 hes).1
    have h' := h
    obtain ⟨jv, ty, hcv, hv⟩ := h.gr.shape h.ne
    have key : ∀ (v' : PV) (σ' : List StB), Gr pnn 3 v' σ' (xs ++ [x]) → (∀ i b, blkOf v ≠ some i → (σ ++ [StB.live 3 [pnn x]])[i]? = some b → σ'[i]? = some b) → blkOf v' = some (σ ++ [StB.live 3 [pnn x]]).length → 
        ∃ v2, pnn xs.length = pnn ((addL xs x).idxOf x) ∧ Num ((σ'.set j (.liv 116 [v', .omap m])).set m (.mp .i64 (pmapSet es x (pnn xs.length)))) j m v2 (addL xs x) ∧ NF σ ((σ'.set j (.liv 116 [v', .omap m])).set m (.mp .i64 (pmapSet es x (pnn xs.length)))) j m v v2 := by
      intro v' σ' hv' hkp hbv
      have hb1 := hv'.blk hbv
      have hl1 : (σ ++ [StB.live 3 [pnn x]]).length = σ.length + 1 := by simp
      rw [hl1] at hbv hb1
      have hb2 : ∀ i, i ≤ σ.length → blkOf v' ≠ some i := fun i hi e => by
        rw [hbv] at e; have := Option.some.inj e; omega
      refine ⟨v', by rw [addL_out hx, idx_new hx], ⟨?_, ?_, ⟨pmapSet es x (pnn xs.length), ?_, fun y => ?_⟩, ?_, ?_, ?_, h.jm⟩, ⟨?_, fun i b h1 h2 h3 h4 => ?_, fun i hi _ => hb2 i (by omega)⟩⟩
      · rw [List.getElem?_set_ne h.jm, List.getElem?_set_self (by omega)]
      · rw [addL_out hx]
        refine hv'.keep fun i b hi hb => ?_
        rw [hbv] at hi
        have := Option.some.inj hi
        rw [List.getElem?_set_ne (by omega), List.getElem?_set_ne (by omega)]
        exact hb
      · rw [List.getElem?_set_self (by rw [List.length_set]; omega)]
      · rw [get_set_map, addL_out hx]
        by_cases hy : (y : Int) = x
        · have : y = x := by omega
          subst this
          rw [if_pos rfl, if_pos (by simp), idx_new hx]
        · have hne : y ≠ x := by omega
          rw [if_neg hy, hget]
          by_cases hm : y ∈ xs
          · rw [if_pos hm, if_pos (by simp [hm]), idx_old hm]
          · rw [if_neg hm, if_neg (by simp [hm, hne])]
      · rw [addL_out hx]; simp
      · exact hb2 j (by omega)
      · exact hb2 m (by omega)
      · rw [List.length_set, List.length_set]; omega
      · rw [List.getElem?_set_ne (Ne.symm h2), List.getElem?_set_ne (Ne.symm h1)]
        exact hkp i b h3 (push_old h4)
    rcases hv with rfl | rfl
    all_goals
      refine ⟨_, load_liv h.liv rfl rfl, ?_⟩
      refine ⟨_, load_liv h.liv rfl rfl, ?_⟩
      refine ⟨by omega, part1 fzI ⟨[pnn x], rfl, ?_⟩⟩
      refine appG (f := pnn) (e := 3) (y := x) h.gr.push push_cont rfl rfl rfl rfl (by kernel_rfl) rfl rfl (by omega) (by omega) fun v' σ' hv' hkp hbv' => ?_
      have hpc := hv'.cell
      refine ⟨_, _, hkp j _ h.jv (push_old h.liv), ⟨by rw [hpc.1]; rfl, Nat.le_of_ble_eq_true rfl, by rw [hpc.1]; show (v'.one && true) = true; rw [hpc.2]; rfl⟩, [v', .omap m], by rw [hpc.1]; rfl, _, rfl, ?_⟩
      have hj' : j < σ'.length := (List.getElem?_eq_some_iff.1 (hkp j _ h.jv (push_old h.liv))).1
      refine ⟨_, load_liv (List.getElem?_set_self hj') rfl rfl, ?_⟩
      refine ⟨es, _, ⟨rfl, by rw [List.getElem?_set_ne hjm]; exact hkp m _ h.mv (push_old hes)⟩, rfl, _, rfl, ?_⟩
      exact endm [] (by dsimp only; omega) (key v' σ' hv' hkp hbv')
end Go.PI
/- NUMBERINGS: the squares around one. -/
open Go.Proofs
namespace Go.PI
open IM
set_option maxRecDepth 10000
set_option maxHeartbeats 4000000
variable (S : FuncId → Option (List AV → Heap → Option (AV × Heap)))
theorem Num.push {σ : List StB} {j m : Nat} {v : PV} {xs : List Nat} {b : StB} (h : Num σ j m v xs) : Num (σ ++ [b]) j m v xs := by
  obtain ⟨es, hes, hg⟩ := h.mp
  exact ⟨push_old h.liv, h.gr.push, ⟨es, push_old hes, hg⟩, h.ne, h.jv, h.mv, h.jm⟩
theorem Num.keep {σ σ' : List StB} {j m : Nat} {v : PV} {xs : List Nat} (h : Num σ j m v xs) (k : ∀ i b, (i = j ∨ i = m ∨ blkOf v = some i) → σ[i]? = some b → σ'[i]? = some b) : Num σ' j m v xs := by
  obtain ⟨es, hes, hg⟩ := h.mp
  exact ⟨k j _ (.inl rfl) h.liv, h.gr.keep fun i b hi hb => k i b (.inr (.inr hi)) hb, ⟨es, k m _ (.inr (.inl rfl)) hes, hg⟩, h.ne, h.jv, h.mv, h.jm⟩
theorem Num.jl {σ : List StB} {j m : Nat} {v : PV} {xs : List Nat} (h : Num σ j m v xs) : j < σ.length := (List.getElem?_eq_some_iff.1 h.liv).1
theorem Num.ml {σ : List StB} {j m : Nat} {v : PV} {xs : List Nat} (h : Num σ j m v xs) : m < σ.length := by
  obtain ⟨es, hes, hg⟩ := h.mp
  exact (List.getElem?_eq_some_iff.1 hes).1
theorem NF.push {σ : List StB} {j m : Nat} {v : PV} {b : StB} : NF σ (σ ++ [b]) j m v v := ⟨by simp, fun i b _ _ _ h => push_old h, fun _ _ h => h⟩
theorem addL_idx {xs : List Nat} {x y : Nat} (h : y ∈ xs) : (addL xs x).idxOf y = xs.idxOf y := by
  unfold addL
  by_cases hx : x ∈ xs
  · rw [if_pos hx]
  · rw [if_neg hx, idx_old h]
theorem addL_self {xs : List Nat} {x : Nat} : x ∈ addL xs x := addL_mem.2 (.inr rfl)
theorem addL_len {xs : List Nat} {x : Nat} : (addL xs x).length ≤ xs.length + 1 := by
  unfold addL
  by_cases hx : x ∈ xs
  · rw [if_pos hx]; omega
  · rw [if_neg hx]; simp
theorem load_c {C : Ctx} {σ : List StB} {j o : Nat} {t t' : TypeId} {i : TI} {cs : List PV} {v : PV} (hc : contOf σ j = some (t', cs)) (hi : C.ty t = some i) (hv : partP i cs o = some v) : ploadE C σ t (.optr j o) = some v := by
  unfold ploadE
  rw [hi]
  simp only [hc]
  exact hv
theorem NF.set {σ σ' : List StB} {j m L : Nat} {v v' : PV} {b : StB} (h : NF σ σ' j m v v') (hL : σ.length ≤ L) : NF σ (σ'.set L b) j m v v' :=
  ⟨by rw [List.length_set]; exact h.len, fun i b h1 h2 h3 h4 => by
    have := (List.getElem?_eq_some_iff.1 h4).1
    rw [List.getElem?_set_ne (by omega)]; exact h.keep i b h1 h2 h3 h4, h.blk⟩
theorem Num.set {σ : List StB} {j m L : Nat} {v : PV} {xs : List Nat} {b : StB} (h : Num σ j m v xs) (h1 : L ≠ j) (h2 : L ≠ m) (h3 : blkOf v ≠ some L) : Num (σ.set L b) j m v xs :=
  h.keep fun i b hi hb => by
    rw [List.getElem?_set_ne (fun e => by subst e; rcases hi with h | h | h; exact h1 h; exact h2 h; exact h3 h)]; exact hb
theorem fn109 : ctx.fn 109 = some c109 := by kernel_rfl
theorem around_cm (hS : OldO S) {σ : List StB} {j m : Nat} {v : PV} {xs : List Nat} {r u : List Int} {n i x : Nat} {f f' g g' : Nat → Nat} (ho : IsO r u n f f' g g') (h : Num σ j m v xs) (hl : xs.length ≤ 900) (hi : xs[i]? = some x) (hx : x < n) :
    Cm (ctx.plus S) 109 [.optr j 0, pO r u, pn i] σ 20 fun w σ' => ∃ v', w = .agg [pnn ((addL (addL xs (f x)) (g x)).idxOf (f x)), pnn ((addL (addL xs (f x)) (g x)).idxOf (g x))] ∧ Num σ' j m v' (addL (addL xs (f x)) (g x)) ∧ NF σ σ' j m v v' := by
  refine cm_of Onum (hS 109 (by decide)) fn109 fun c k0 hc => ?_
  have hn := ho.le
  have hil := (List.getElem?_eq_some_iff.1 hi).1
  obtain ⟨jv, ty, hcv, hv⟩ := h.gr.shape h.ne
  have hjv : blkOf v = some jv := by rcases hv with rfl | rfl <;> rfl
  have hjvl := contOf_lt hcv
  have hjl := h.jl
  have hml := h.ml
  refine ⟨by omega, by omega, ?_⟩
  refine ⟨by omega, ?_⟩
  refine ⟨by kernel_rfl, ?_⟩
  refine ⟨_, load_c (contOf_app (contOf_app push_cont)) rfl rfl, rfl, ?_⟩
  have hliv := h.liv
  rcases hv with hv | hv
  all_goals
    rw [hv] at hliv
    refine ⟨_, load_liv (push_old (push_old (push_old hliv))) rfl rfl, ?_⟩
    refine ⟨rfl, ?_⟩
    refine ⟨⟨by omega, by omega⟩, ?_⟩
    refine ⟨_, load_k rfl rfl (contOf_app (contOf_app (contOf_app hcv))) (at_map hi) (by show 0 + _ * 1 = i; omega), rfl, ?_⟩
    refine callq rfl (neighbours_ct S hS ho hx) (by omega) ?_
    rintro _ rfl
    obtain ⟨a, ha⟩ : ∃ a : Nat, (addL (addL xs (f x)) (g x)).idxOf (f x) = a := ⟨_, rfl⟩
    obtain ⟨b, hb⟩ : ∃ b : Nat, (addL (addL xs (f x)) (g x)).idxOf (g x) = b := ⟨_, rfl⟩
    rw [ha, hb]
    have ha1 : (addL xs (f x)).idxOf (f x) = a := by rw [← ha, addL_idx addL_self]
    refine ⟨fun q s => ∃ (k k' L6 L7 : Nat) (v' : PV) (σ' : List StB) (T : List PV), s = ⟨T, σ', k'⟩ ∧ Gt T 30 [(0, .optr j 0), (6, .optr L6 0), (7, .optr L7 0), (18, .agg [pnn (f x), pnn (g x)]), (19, pn k)] ∧ q = 2 - k ∧ k ≤ 2 ∧ k' ≤ k0 + 6 + 5 * k ∧ Hid (σ.length ≤ L6 ∧ L6 < L7 ∧ L7 < σ'.length ∧ blkOf v' ≠ some L6 ∧ blkOf v' ≠ some L7 ∧ NF σ σ' j m v v' ∧ σ'[L6]? = some (.live 107 [pn 0, pn 0]) ∧
      ((k = 0 ∧ Num σ' j m v' xs ∧ σ'[L7]? = some (.live 107 [pn 0, pn 0])) ∨ (k = 1 ∧ Num σ' j m v' (addL xs (f x)) ∧ σ'[L7]? = some (.live 107 [pnn a, pn 0])) ∨ (k = 2 ∧ Num σ' j m v' (addL (addL xs (f x)) (g x)) ∧ σ'[L7]? = some (.live 107 [pnn a, pnn b])))), ⟨_, ci ⟨0, _, _, _, v, _, _, rfl, ⟨rfl, rfl, rfl, rfl, rfl, rfl, trivial⟩, rfl, Nat.zero_le _, by omega, ⟨?_, ?_, ?_, ?_, ?_, ?_, ?_, .inl ⟨rfl, h.push.push.push, push_get⟩⟩⟩⟩, ?_⟩
    · simp
    · simp
    · simp
    · rw [hjv]; simp; omega
    · rw [hjv]; simp; omega
    · exact NF.push.trans (NF.push.trans NF.push)
    · exact push_old push_get
    rintro _ s ⟨k, k', L6, L7, v', σ', T, rfl, hT, rfl, hk, hk', hh⟩
    obtain ⟨J, rfl⟩ := gt_open hT
    clear hT
    obtain ⟨c1, c2, c3, c4, c5, c6, c7, c8⟩ := hh.h
    clear hh
    refine ⟨fun hlt => ?_, fun hge => ?_⟩
    · rcases c8 with ⟨rfl, d1, d2⟩ | ⟨rfl, d1, d2⟩ | ⟨rfl, d1, d2⟩
      · refine ⟨⟨by omega, by omega⟩, _, rfl, ?_⟩
        refine callm (number_cm S hS (x := f x) d1 (by omega)) (by omega) ?_
        rintro _ σ2 ⟨v2, rfl, e1, e2⟩
        rw [ha1]
        have g6 := e2.keep L6 _ (by omega) (by omega) c4 c7
        have g7 := e2.keep L7 _ (by omega) (by omega) c5 d2
        have b7 := (List.getElem?_eq_some_iff.1 g7).1
        refine ⟨⟨by omega, by omega⟩, ?_⟩
        refine ⟨_, _, g7, ⟨rfl, Nat.le_of_ble_eq_true rfl, rfl⟩, _, rfl, _, rfl, ?_⟩
        refine ⟨⟨by omega, by omega⟩, ?_⟩
        exact ⟨_, by omega, ci ⟨1, _, L6, L7, v2, _, _, rfl, ⟨rfl, rfl, rfl, rfl, rfl, rfl, trivial⟩, rfl, by omega, by omega, ⟨c1, c2, by rw [List.length_set]; omega, e2.blk L6 (by omega) c4, e2.blk L7 (by omega) c5, (c6.trans e2).set (by omega), by rw [List.getElem?_set_ne (by omega)]; exact g6, .inr (.inl ⟨rfl, e1.set (by omega) (by omega) (e2.blk L7 (by omega) c5), List.getElem?_set_self (by omega)⟩)⟩⟩⟩
      · refine ⟨⟨by omega, by omega⟩, _, rfl, ?_⟩
        have l2 : (addL xs (f x)).length ≤ xs.length + 1 := addL_len
        refine callm (number_cm S hS (x := g x) d1 (by omega)) (by omega) ?_
        rintro _ σ2 ⟨v2, rfl, e1, e2⟩
        rw [hb]
        have g6 := e2.keep L6 _ (by omega) (by omega) c4 c7
        have g7 := e2.keep L7 _ (by omega) (by omega) c5 d2
        have b7 := (List.getElem?_eq_some_iff.1 g7).1
        refine ⟨⟨by omega, by omega⟩, ?_⟩
        refine ⟨_, _, g7, ⟨rfl, Nat.le_of_ble_eq_true rfl, rfl⟩, _, rfl, _, rfl, ?_⟩
        refine ⟨⟨by omega, by omega⟩, ?_⟩
        exact ⟨_, by omega, ci ⟨2, _, L6, L7, v2, _, _, rfl, ⟨rfl, rfl, rfl, rfl, rfl, rfl, trivial⟩, rfl, by omega, by omega, ⟨c1, c2, by rw [List.length_set]; omega, e2.blk L6 (by omega) c4, e2.blk L7 (by omega) c5, (c6.trans e2).set (by omega), by rw [List.getElem?_set_ne (by omega)]; exact g6, .inr (.inr ⟨rfl, e1.set (by omega) (by omega) (e2.blk L7 (by omega) c5), List.getElem?_set_self (by omega)⟩)⟩⟩⟩
      · exact absurd hlt (by omega)
    · rcases c8 with ⟨rfl, d1, d2⟩ | ⟨rfl, d1, d2⟩ | ⟨rfl, d1, d2⟩
      · exact absurd hge (by omega)
      · exact absurd hge (by omega)
      · refine ⟨_, load_c (contOf_live d2) rfl rfl, ?_⟩
        refine ⟨_, _, c7, ⟨rfl, Nat.le_of_ble_eq_true rfl, rfl⟩, _, rfl, _, rfl, ?_⟩
        refine ⟨_, load_c (contOf_live (List.getElem?_set_self (by omega))) rfl rfl, ?_⟩
        exact endm [] (by dsimp only; omega) ⟨v', rfl, d1.set (by omega) (by omega) c4, c6.set c1⟩
end Go.PI
