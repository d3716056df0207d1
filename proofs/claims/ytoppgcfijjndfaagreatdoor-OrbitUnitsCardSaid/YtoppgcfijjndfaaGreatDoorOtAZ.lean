/- Own work of the verifier: OgBfs OgLabM OgIso OrMath OrPow. -/
import Derived.Test.YtoppgcfijjndfaaGreatDoorOtAX
set_option linter.all false
set_option exponentiation.threshold 3000
set_option linter.deprecated false
/- SQUARES in the order in which they are reached. -/
namespace Go.PI
def addL (xs : List Nat) (x : Nat) : List Nat := if x ∈ xs then xs else xs ++ [x]
theorem addL_mem {xs : List Nat} {x y : Nat} : y ∈ addL xs x ↔ y ∈ xs ∨ y = x := by
  unfold addL
  by_cases h : x ∈ xs
  · rw [if_pos h]
    exact ⟨.inl, fun a => by rcases a with a | rfl; exact a; exact h⟩
  · rw [if_neg h]; simp
theorem addL_nodup {xs : List Nat} {x : Nat} (h : xs.Nodup) : (addL xs x).Nodup := by
  unfold addL
  by_cases hx : x ∈ xs
  · rw [if_pos hx]; exact h
  · rw [if_neg hx]
    exact List.nodup_append.2 ⟨h, by simp, fun a ha b hb => by rw [List.mem_singleton.1 hb]; rintro rfl; exact hx ha⟩
theorem addL_pre {xs : List Nat} {x : Nat} : xs <+: addL xs x := by
  unfold addL
  by_cases hx : x ∈ xs
  · rw [if_pos hx]; exact List.prefix_refl _
  · rw [if_neg hx]; exact List.prefix_append _ _
theorem addL_get {xs : List Nat} {x y p : Nat} (h : (addL xs x)[p]? = some y) : xs[p]? = some y ∨ (p = xs.length ∧ y = x) := by
  unfold addL at h
  by_cases hx : x ∈ xs
  · rw [if_pos hx] at h; exact .inl h
  · rw [if_neg hx] at h
    rcases Nat.lt_trichotomy p xs.length with a | a | a
    · rw [List.getElem?_append_left a] at h; exact .inl h
    · subst a; simp at h; exact .inr ⟨rfl, h.symm⟩
    · rw [List.getElem?_eq_none (by simp; omega)] at h; cases h
section
variable (f g : Nat → Nat) (s : Nat)
def nxt (xs : List Nat) (i : Nat) : List Nat :=
  match xs[i]? with
  | some x => addL (addL xs (f x)) (g x)
  | none => xs
def bfs : Nat → List Nat
  | 0 => [s]
  | i + 1 => nxt f g (bfs i) i
/-- reached by some steps -/
inductive Rch : Nat → Prop
  | refl : Rch s
  | f {y : Nat} (h : Rch y) : Rch (f y)
  | g {y : Nat} (h : Rch y) : Rch (g y)
/-- reached by at most k steps -/
def RchK : Nat → Nat → Prop
  | 0, y => y = s
  | k + 1, y => RchK k y ∨ ∃ z, RchK k z ∧ (y = f z ∨ y = g z)
end
section
variable {f g : Nat → Nat} {s : Nat}
theorem nxt_at {xs : List Nat} {i x : Nat} (h : xs[i]? = some x) : nxt f g xs i = addL (addL xs (f x)) (g x) := by unfold nxt; rw [h]
theorem nxt_pre {xs : List Nat} {i : Nat} : xs <+: nxt f g xs i := by
  unfold nxt
  split
  · exact List.IsPrefix.trans addL_pre addL_pre
  · exact List.prefix_refl _
theorem bfs_pre : ∀ (k : Nat) {i : Nat}, bfs f g s i <+: bfs f g s (i + k)
  | 0, _ => List.prefix_refl _
  | k + 1, i => List.IsPrefix.trans (bfs_pre k) (show bfs f g s (i + k) <+: nxt f g (bfs f g s (i + k)) (i + k) from nxt_pre)
theorem bfs_nodup : ∀ i, (bfs f g s i).Nodup
  | 0 => by simp [bfs]
  | i + 1 => by
    show (nxt f g (bfs f g s i) i).Nodup
    unfold nxt
    split
    · exact addL_nodup (addL_nodup (bfs_nodup i))
    · exact bfs_nodup i
theorem bfs_lt {n : Nat} {f' g' : Nat → Nat} (pf : IsP n f f') (pg : IsP n g g') (hs : s < n) : ∀ i, ∀ y ∈ bfs f g s i, y < n
  | 0, y, hy => by rw [List.mem_singleton.1 hy]; exact hs
  | i + 1, y, hy => by
    have ih := bfs_lt pf pg hs i
    change y ∈ nxt f g (bfs f g s i) i at hy
    unfold nxt at hy
    split at hy
    · rename_i x hx
      have hxn := ih x (List.mem_of_getElem? hx)
      rcases addL_mem.1 hy with hy | rfl
      · rcases addL_mem.1 hy with hy | rfl
        · exact ih y hy
        · exact pf.lt x hxn
      · exact pg.lt x hxn
    · exact ih y hy
theorem bfs_len {n : Nat} {f' g' : Nat → Nat} (pf : IsP n f f') (pg : IsP n g g') (hs : s < n) (i : Nat) : (bfs f g s i).length ≤ n := by
  have := len_le_of (bfs_nodup (f := f) (g := g) (s := s) i) (m := List.range n) fun y hy => List.mem_range.2 (bfs_lt pf pg hs i y hy)
  rwa [List.length_range] at this
theorem bfs_get {i p k y : Nat} (h : (bfs f g s i)[p]? = some y) : (bfs f g s (i + k))[p]? = some y := by
  obtain ⟨t, ht⟩ := bfs_pre (f := f) (g := g) (s := s) k (i := i)
  rw [← ht, List.getElem?_append_left (List.getElem?_eq_some_iff.1 h).1]
  exact h
theorem bfs_mem {i k y : Nat} (h : y ∈ bfs f g s i) : y ∈ bfs f g s (i + k) := (bfs_pre (f := f) (g := g) (s := s) k (i := i)).subset h
/-- those that have been gone through -/
theorem bfs_steps {i p y : Nat} (hp : p < i) (h : (bfs f g s i)[p]? = some y) : f y ∈ bfs f g s i ∧ g y ∈ bfs f g s i := by
  have hy : (bfs f g s p)[p]? = some y ∨ p ≥ (bfs f g s p).length := by
    rcases Nat.lt_or_ge p (bfs f g s p).length with a | a
    · obtain ⟨z, hz⟩ : ∃ z, (bfs f g s p)[p]? = some z := ⟨_, List.getElem?_eq_getElem a⟩
      have := bfs_get (k := i - p) hz
      rw [show p + (i - p) = i by omega, h] at this
      cases this
      exact .inl hz
    · exact .inr a
  rcases hy with hy | hy
  · have e : bfs f g s (p + 1) = addL (addL (bfs f g s p) (f y)) (g y) := nxt_at hy
    have h1 : f y ∈ bfs f g s (p + 1) := by rw [e, addL_mem, addL_mem]; exact .inl (.inr rfl)
    have h2 : g y ∈ bfs f g s (p + 1) := by rw [e, addL_mem]; exact .inr rfl
    have a := bfs_mem (k := i - (p + 1)) h1
    have b := bfs_mem (k := i - (p + 1)) h2
    rw [show p + 1 + (i - (p + 1)) = i by omega] at a b
    exact ⟨a, b⟩
  · exfalso
    have hst : ∀ k, bfs f g s (p + k) = bfs f g s p := by
      intro k
      induction k with
      | zero => rfl
      | succ k ih =>
        show nxt f g (bfs f g s (p + k)) (p + k) = _
        rw [ih]
        unfold nxt
        rw [List.getElem?_eq_none (by omega)]
    have := hst (i - p)
    rw [show p + (i - p) = i by omega] at this
    rw [this, List.getElem?_eq_none hy] at h
    cases h
theorem bfs_stop {k : Nat} (h : (bfs f g s k).length ≤ k) : ∀ m, bfs f g s (k + m) = bfs f g s k
  | 0 => rfl
  | m + 1 => by
    show nxt f g (bfs f g s (k + m)) (k + m) = _
    rw [bfs_stop h m]
    unfold nxt
    rw [List.getElem?_eq_none (by omega)]
/-- all that are reached -/
theorem bfs_all {k : Nat} (h : (bfs f g s k).length ≤ k) {y : Nat} (hy : Rch f g s y) : y ∈ bfs f g s k := by
  induction hy with
  | refl =>
    have := bfs_mem (k := k) (show s ∈ bfs f g s 0 by simp [bfs])
    rwa [Nat.zero_add] at this
  | f _ ih =>
    obtain ⟨p, hp⟩ := List.getElem?_of_mem ih
    have := (List.getElem?_eq_some_iff.1 hp).1
    exact (bfs_steps (by omega) hp).1
  | g _ ih =>
    obtain ⟨p, hp⟩ := List.getElem?_of_mem ih
    have := (List.getElem?_eq_some_iff.1 hp).1
    exact (bfs_steps (by omega) hp).2
theorem rchK_mono {k y : Nat} : ∀ m, RchK f g s k y → RchK f g s (k + m) y
  | 0, h => h
  | m + 1, h => .inl (rchK_mono m h)
theorem rchK_rch : ∀ {k y : Nat}, RchK f g s k y → Rch f g s y
  | 0, _, h => by rw [show _ = s from h]; exact .refl
  | k + 1, y, h => by
    rcases h with h | ⟨z, h, rfl | rfl⟩
    · exact rchK_rch h
    · exact .f (rchK_rch h)
    · exact .g (rchK_rch h)
/-- where one stands, it is reached within as many steps -/
theorem bfs_dist : ∀ (i p y : Nat), (bfs f g s i)[p]? = some y → RchK f g s p y
  | 0, p, y, h => by
    cases p with
    | zero => simp [bfs] at h; exact h.symm
    | succ p => simp [bfs] at h
  | i + 1, p, y, h => by
    change (nxt f g (bfs f g s i) i)[p]? = some y at h
    unfold nxt at h
    split at h
    · rename_i x hx
      have hxi := (List.getElem?_eq_some_iff.1 hx).1
      have hxd := bfs_dist i i x hx
      rcases addL_get h with h | ⟨hp, rfl⟩
      · rcases addL_get h with h | ⟨hp, rfl⟩
        · exact bfs_dist i p y h
        · have : RchK f g s (i + 1) (f x) := .inr ⟨x, hxd, .inl rfl⟩
          have := rchK_mono (p - (i + 1)) this
          rwa [show i + 1 + (p - (i + 1)) = p by omega] at this
      · have h1 : (bfs f g s i).length ≤ (addL (bfs f g s i) (f x)).length := (addL_pre (xs := bfs f g s i) (x := f x)).length_le
        have : RchK f g s (i + 1) (g x) := .inr ⟨x, hxd, .inr rfl⟩
        have := rchK_mono (p - (i + 1)) this
        rwa [show i + 1 + (p - (i + 1)) = p by omega] at this
    · exact bfs_dist i p y h
theorem bfs_rch {i y : Nat} (h : y ∈ bfs f g s i) : Rch f g s y := by
  obtain ⟨p, hp⟩ := List.getElem?_of_mem h
  exact rchK_rch (bfs_dist i p y hp)
theorem bfs_iff {k : Nat} (h : (bfs f g s k).length ≤ k) {y : Nat} : y ∈ bfs f g s k ↔ Rch f g s y := ⟨bfs_rch, bfs_all h⟩
theorem Rch.trans {y z : Nat} (a : Rch f g s y) (b : Rch f g y z) : Rch f g s z := by
  induction b with
  | refl => exact a
  | f _ ih => exact .f ih
  | g _ ih => exact .g ih
theorem Rch.itf {k y : Nat} (h : Rch f g s y) : Rch f g s (it f k y) := by
  induction k with
  | zero => exact h
  | succ k ih => exact .f ih
theorem Rch.itg {k y : Nat} (h : Rch f g s y) : Rch f g s (it g k y) := by
  induction k with
  | zero => exact h
  | succ k ih => exact .g ih
theorem rch_lt {n : Nat} {f' g' : Nat → Nat} (pf : IsP n f f') (pg : IsP n g g') (hs : s < n) {y : Nat} (h : Rch f g s y) : y < n := by
  induction h with
  | refl => exact hs
  | f _ ih => exact pf.lt _ ih
  | g _ ih => exact pg.lt _ ih
theorem Rch.symm {n : Nat} {f' g' : Nat → Nat} (pf : IsP n f f') (pg : IsP n g g') (hs : s < n) {y : Nat} (h : Rch f g s y) : Rch f g y s := by
  induction h with
  | refl => exact .refl
  | @f z hz ih =>
    have hzn := rch_lt pf pg hs hz
    obtain ⟨k, hk⟩ := InC.symm pf hzn (⟨1, rfl⟩ : InC f z (f z))
    exact (show Rch f g (f z) z by have := Rch.itf (g := g) (k := k) (.refl : Rch f g (f z) (f z)); rwa [hk] at this).trans ih
  | @g z hz ih =>
    have hzn := rch_lt pf pg hs hz
    obtain ⟨k, hk⟩ := InC.symm pg hzn (⟨1, rfl⟩ : InC g z (g z))
    exact (show Rch f g (g z) z by have := Rch.itg (f := f) (k := k) (.refl : Rch f g (g z) (g z)); rwa [hk] at this).trans ih
end
/-- connected -/
def Conn (n : Nat) (f g : Nat → Nat) : Prop := ∀ y, y < n → Rch f g 0 y
theorem conn_len {n : Nat} {f f' g g' : Nat → Nat} (pf : IsP n f f') (pg : IsP n g g') (h0 : 0 < n) {k : Nat} (h : (bfs f g 0 k).length ≤ k) : (bfs f g 0 k).length = n ↔ Conn n f g := by
  have hle := bfs_len pf pg h0 k
  constructor
  · intro e y hy
    rw [← bfs_iff h]
    refine Classical.byContradiction fun hc => ?_
    have := len_le_of (List.nodup_cons.2 ⟨hc, bfs_nodup k⟩) (m := List.range n) fun z hz => by
      rcases List.mem_cons.1 hz with rfl | hz
      · exact List.mem_range.2 hy
      · exact List.mem_range.2 (bfs_lt pf pg h0 k z hz)
    simp only [List.length_cons, List.length_range] at this
    omega
  · intro hc
    have := len_le_of (l := List.range n) (m := bfs f g 0 k) (by unfold List.Nodup; exact List.pairwise_lt_range.imp fun h e => by omega) fun y hy => (bfs_iff h).2 (hc y (List.mem_range.1 hy))
    rw [List.length_range] at this
    omega
end Go.PI
/- NUMBERINGS AND LABELS: what they are. -/
namespace Go.PI
set_option maxRecDepth 10000
set_option maxHeartbeats 4000000
def es (f g : Nat → Nat) (n s k : Nat) : Nat := (bfs f g s n).getD k 0
def ei (f g : Nat → Nat) (n s x : Nat) : Nat := (bfs f g s n).idxOf x
theorem bfs_full {n s : Nat} {f f' g g' : Nat → Nat} (pf : IsP n f f') (pg : IsP n g g') (h0 : 0 < n) (hs : s < n) (hc : Conn n f g) : (bfs f g s n).length = n ∧ ∀ y, y < n → y ∈ bfs f g s n := by
  have hle := bfs_len pf pg hs n
  have hall : ∀ y, y < n → y ∈ bfs f g s n := fun y hy => bfs_all hle (((hc s hs).symm pf pg h0).trans (hc y hy))
  have := len_le_of (l := List.range n) (m := bfs f g s n) (by unfold List.Nodup; exact List.pairwise_lt_range.imp fun h e => by omega) fun y hy => hall y (List.mem_range.1 hy)
  rw [List.length_range] at this
  exact ⟨by omega, hall⟩
theorem es_get {n s k : Nat} {f f' g g' : Nat → Nat} (pf : IsP n f f') (pg : IsP n g g') (h0 : 0 < n) (hs : s < n) (hc : Conn n f g) (hk : k < n) : (bfs f g s n)[k]? = some (es f g n s k) := by
  have hl := (bfs_full pf pg h0 hs hc).1
  unfold es
  rw [List.getD_eq_getElem?_getD, List.getElem?_eq_getElem (show k < (bfs f g s n).length by omega)]
  rfl
theorem es_perm {n s : Nat} {f f' g g' : Nat → Nat} (pf : IsP n f f') (pg : IsP n g g') (h0 : 0 < n) (hs : s < n) (hc : Conn n f g) : IsP n (es f g n s) (ei f g n s) := by
  obtain ⟨hl, hall⟩ := bfs_full pf pg h0 hs hc
  have hnd : (bfs f g s n).Nodup := bfs_nodup n
  have hget := fun k hk => es_get (k := k) pf pg h0 hs hc hk
  have hlt : ∀ k, k < n → es f g n s k < n := fun k hk => bfs_lt pf pg hs n _ (List.mem_of_getElem? (hget k hk))
  have hidx : ∀ y, y < n → ei f g n s y < n := fun y hy => by
    have := List.idxOf_lt_length_of_mem (hall y hy)
    unfold ei; omega
  have hfg : ∀ y, y < n → es f g n s (ei f g n s y) = y := fun y hy => by
    have h1 := hget _ (hidx y hy)
    have h2 : (bfs f g s n)[(bfs f g s n).idxOf y]? = some y := by
      rw [List.getElem?_eq_getElem (List.idxOf_lt_length_of_mem (hall y hy)), List.getElem_idxOf]
    have h3 : (bfs f g s n)[ei f g n s y]? = some y := h2
    rw [h1] at h3
    exact Option.some.inj h3
  refine ⟨hlt, hidx, fun k hk => ?_, hfg⟩
  have e := hfg _ (hlt k hk)
  have h1 := hget _ (hidx _ (hlt k hk))
  rw [e, ← hget k hk] at h1
  exact (List.getElem?_inj (by have := hidx _ (hlt k hk); omega) hnd).1 h1
/-- while not all are reached there is one more to go on from -/
theorem bfs_more {n s i : Nat} {f f' g g' : Nat → Nat} (pf : IsP n f f') (pg : IsP n g g') (h0 : 0 < n) (hs : s < n) (hc : Conn n f g) (hi : i < n) : i < (bfs f g s i).length := by
  refine Nat.lt_of_not_le fun hle => ?_
  have := bfs_stop hle (n - i)
  rw [show i + (n - i) = n by omega] at this
  have h2 := (bfs_full pf pg h0 hs hc).1
  rw [this] at h2
  omega
theorem bfs_idx {n s i y : Nat} {f g : Nat → Nat} (hi : i ≤ n) (h : y ∈ bfs f g s i) : (bfs f g s i).idxOf y = ei f g n s y := by
  obtain ⟨t, ht⟩ := bfs_pre (f := f) (g := g) (s := s) (n - i) (i := i)
  rw [show i + (n - i) = n by omega] at ht
  unfold ei
  rw [← ht, List.idxOf_append, if_pos h]
/-- the place of step f after the numbering e -/
def rn (e e' f : Nat → Nat) (k : Nat) : Nat := e' (f (e k))
def Lt (xs ys : List Int) : Prop := ∃ k a b, xs.take k = ys.take k ∧ xs[k]? = some a ∧ ys[k]? = some b ∧ a < b
theorem take_get {xs ys : List Int} {k i : Nat} (h : xs.take k = ys.take k) (hi : i < k) : xs[i]? = ys[i]? := by
  have := congrArg (fun l : List Int => l[i]?) h
  simp only [List.getElem?_take, if_pos hi] at this
  exact this
theorem lt_at {xs ys : List Int} {k : Nat} {a b : Int} (h : xs.take k = ys.take k) (ha : xs[k]? = some a) (hb : ys[k]? = some b) (hne : a ≠ b) : Lt xs ys ↔ a < b := by
  constructor
  · rintro ⟨k', a', b', h', ha', hb', hlt⟩
    rcases Nat.lt_trichotomy k' k with e | e | e
    · have := take_get h e
      rw [ha', hb'] at this
      have := Option.some.inj this
      omega
    · subst e
      rw [ha] at ha'; rw [hb] at hb'
      have := Option.some.inj ha'
      have := Option.some.inj hb'
      omega
    · have := take_get h' e
      rw [ha, hb] at this
      exact absurd (Option.some.inj this) hne
  · exact fun hlt => ⟨k, a, b, h, ha, hb, hlt⟩
theorem lt_irr {xs : List Int} : ¬ Lt xs xs := by
  rintro ⟨k, a, b, -, ha, hb, hlt⟩
  rw [ha] at hb
  have := Option.some.inj hb
  omega
theorem first_diff : ∀ {xs ys : List Int}, xs.length = ys.length → xs ≠ ys → ∃ k a b, xs.take k = ys.take k ∧ xs[k]? = some a ∧ ys[k]? = some b ∧ a ≠ b
  | [], [], _, h => absurd rfl h
  | [], _ :: _, h, _ => by simp at h
  | _ :: _, [], h, _ => by simp at h
  | x :: xs, y :: ys, hl, hne => by
    by_cases e : x = y
    · subst e
      obtain ⟨k, a, b, h1, h2, h3, h4⟩ := first_diff (xs := xs) (ys := ys) (by simpa using hl) (fun e => hne (by rw [e]))
      exact ⟨k + 1, a, b, by simp [h1], by simpa using h2, by simpa using h3, h4⟩
    · exact ⟨0, x, y, rfl, rfl, rfl, e⟩
theorem lt_app {R R' U U' : List Int} (h1 : R.length = R'.length) (h2 : U.length = U'.length) : Lt (R ++ U) (R' ++ U') ↔ Lt R R' ∨ (R = R' ∧ Lt U U') := by
  by_cases hR : R = R'
  · subst hR
    by_cases hU : U = U'
    · subst hU
      exact ⟨fun h => absurd h lt_irr, fun h => by rcases h with h | h; exact absurd h lt_irr; exact absurd h.2 lt_irr⟩
    · obtain ⟨k, a, b, g1, g2, g3, g4⟩ := first_diff h2 hU
      rw [lt_at (k := R.length + k) (a := a) (b := b) (by simp [List.take_append, g1, List.take_of_length_le]) (by rw [List.getElem?_append_right (by omega), show R.length + k - R.length = k by omega]; exact g2) (by rw [List.getElem?_append_right (by omega), show R.length + k - R.length = k by omega]; exact g3) g4, lt_at g1 g2 g3 g4]
      exact ⟨fun h => .inr ⟨rfl, h⟩, fun h => by rcases h with h | h; exact absurd h lt_irr; exact h.2⟩
  · obtain ⟨k, a, b, g1, g2, g3, g4⟩ := first_diff h1 hR
    have l1 := (List.getElem?_eq_some_iff.1 g2).1
    have l2 := (List.getElem?_eq_some_iff.1 g3).1
    rw [lt_at (k := k) (a := a) (b := b) (by rw [List.take_append_of_le_length (by omega), List.take_append_of_le_length (by omega)]; exact g1) (by rw [List.getElem?_append_left l1]; exact g2) (by rw [List.getElem?_append_left l2]; exact g3) g4, lt_at g1 g2 g3 g4]
    exact ⟨.inl, fun h => by rcases h with h | h; exact h; exact absurd h.1 hR⟩
def Rs (f g : Nat → Nat) (n s : Nat) : List Int := PL n (rn (es f g n s) (ei f g n s) f)
def Us (f g : Nat → Nat) (n s : Nat) : List Int := PL n (rn (es f g n s) (ei f g n s) g)
def Bf (f g : Nat → Nat) (n s t : Nat) : Prop := Lt (Rs f g n s ++ Us f g n s) (Rs f g n t ++ Us f g n t)
open Classical in
noncomputable def bst (f g : Nat → Nat) (n : Nat) : Nat → Nat
  | 0 => 0
  | i + 1 => if Bf f g n i (bst f g n i) then i else bst f g n i
open Classical in
theorem bst_yes {f g : Nat → Nat} {n i : Nat} (h : Bf f g n i (bst f g n i)) : bst f g n (i + 1) = i := by
  show (if _ then _ else _) = _
  rw [if_pos h]
open Classical in
theorem bst_no {f g : Nat → Nat} {n i : Nat} (h : ¬ Bf f g n i (bst f g n i)) : bst f g n (i + 1) = bst f g n i := by
  show (if _ then _ else _) = _
  rw [if_neg h]
theorem bst_one {f g : Nat → Nat} {n : Nat} : bst f g n 1 = 0 := bst_no lt_irr
theorem bst_lt {f g : Nat → Nat} {n : Nat} (h0 : 0 < n) : ∀ i, i ≤ n → bst f g n i < n
  | 0, _ => h0
  | i + 1, hi => by
    by_cases h : Bf f g n i (bst f g n i)
    · rw [bst_yes h]; omega
    · rw [bst_no h]; exact bst_lt h0 i (by omega)
theorem Rs_len {f g : Nat → Nat} {n s : Nat} : (Rs f g n s).length = n := PL_len
theorem Us_len {f g : Nat → Nat} {n s : Nat} : (Us f g n s).length = n := PL_len
theorem Rs_ne {f g : Nat → Nat} {n s : Nat} (h : 0 < n) : Rs f g n s ≠ [] := fun e => by
  have := Rs_len (f := f) (g := g) (n := n) (s := s)
  rw [e] at this
  simp at this
  omega
end Go.PI
/- ISOMORPHIC ORIGAMIS have the same label. -/
namespace Go.PI
set_option maxRecDepth 10000
set_option maxHeartbeats 4000000
/-- e takes f, g to F, G -/
structure Isom (n : Nat) (f g F G e : Nat → Nat) : Prop where
  lt : ∀ x, x < n → e x < n
  inj : ∀ x y, x < n → y < n → e x = e y → x = y
  f : ∀ x, x < n → F (e x) = e (f x)
  g : ∀ x, x < n → G (e x) = e (g x)
section
variable {n : Nat} {f f' g g' F F' G G' e : Nat → Nat}
theorem addL_map (hi : ∀ x y, x < n → y < n → e x = e y → x = y) {xs : List Nat} {x : Nat} (hx : x < n) (hxs : ∀ y ∈ xs, y < n) : addL (xs.map e) (e x) = (addL xs x).map e := by
  unfold addL
  by_cases h : x ∈ xs
  · rw [if_pos h, if_pos (List.mem_map.2 ⟨x, h, rfl⟩)]
  · rw [if_neg h, if_neg fun hm => ?_]
    · simp
    · obtain ⟨y, hy, e2⟩ := List.mem_map.1 hm
      exact h (hi _ _ (hxs y hy) hx e2 ▸ hy)
theorem Isom.bfs (h : Isom n f g F G e) (pf : IsP n f f') (pg : IsP n g g') {s : Nat} (hs : s < n) : ∀ k, PI.bfs F G (e s) k = (PI.bfs f g s k).map e
  | 0 => rfl
  | k + 1 => by
    show nxt F G (PI.bfs F G (e s) k) k = (nxt f g (PI.bfs f g s k) k).map e
    rw [h.bfs pf pg hs k]
    unfold nxt
    rw [List.getElem?_map]
    cases hx : (PI.bfs f g s k)[k]? with
    | none => rfl
    | some x =>
      have hlt := bfs_lt pf pg hs k
      have hxn := hlt x (List.mem_of_getElem? hx)
      simp only [Option.map_some]
      rw [h.f x hxn, h.g x hxn, addL_map h.inj (pf.lt x hxn) hlt, addL_map h.inj (pg.lt x hxn) fun y hy => ?_]
      rcases addL_mem.1 hy with hy | rfl
      · exact hlt y hy
      · exact pf.lt x hxn
theorem idxOf_map (hi : ∀ x y, x < n → y < n → e x = e y → x = y) {x : Nat} (hx : x < n) : ∀ {xs : List Nat}, (∀ y ∈ xs, y < n) → (xs.map e).idxOf (e x) = xs.idxOf x
  | [], _ => rfl
  | y :: xs, h => by
    have hy := h y (by simp)
    have ih := idxOf_map hi hx (xs := xs) fun z hz => h z (by simp [hz])
    rw [List.map_cons, List.idxOf_cons, List.idxOf_cons, ih]
    by_cases e2 : y = x
    · subst e2; simp
    · have h3 : e y ≠ e x := fun e3 => e2 (hi _ _ hy hx e3)
      rw [beq_false_of_ne h3, beq_false_of_ne e2]
theorem Isom.rch (h : Isom n f g F G e) (pf : IsP n f f') (pg : IsP n g g') {s y : Nat} (hs : s < n) (hy : Rch f g s y) : Rch F G (e s) (e y) := by
  induction hy with
  | refl => exact .refl
  | f hz ih => rw [← h.f _ (rch_lt pf pg hs hz)]; exact .f ih
  | g hz ih => rw [← h.g _ (rch_lt pf pg hs hz)]; exact .g ih
theorem Isom.onto (h : Isom n f g F G e) {y : Nat} (hy : y < n) : ∃ x, x < n ∧ e x = y := by
  refine Classical.byContradiction fun hc => ?_
  have := len_le_of (l := y :: (List.range n).map e) (m := List.range n) (List.nodup_cons.2 ⟨fun hm => ?_, ?_⟩) fun z hz => ?_
  · simp at this
    omega
  · obtain ⟨x, hx, e2⟩ := List.mem_map.1 hm
    exact hc ⟨x, List.mem_range.1 hx, e2⟩
  · unfold List.Nodup
    rw [List.pairwise_map]
    refine List.Pairwise.imp_of_mem (R := fun a b => a < b) (fun {a b} ha hb hlt e2 => ?_) List.pairwise_lt_range
    have := h.inj a b (List.mem_range.1 ha) (List.mem_range.1 hb) e2
    omega
  · rcases List.mem_cons.1 hz with rfl | hz
    · exact List.mem_range.2 hy
    · obtain ⟨x, hx, rfl⟩ := List.mem_map.1 hz
      exact List.mem_range.2 (h.lt x (List.mem_range.1 hx))
theorem Isom.conn (h : Isom n f g F G e) (pf : IsP n f f') (pg : IsP n g g') (h0 : 0 < n) (hc : Conn n f g) : Conn n F G := fun y hy => by
  obtain ⟨x, hx, rfl⟩ := h.onto hy
  obtain ⟨z, hz, ez⟩ := h.onto h0
  have a := h.rch pf pg hz (((hc z hz).symm pf pg h0).trans (hc x hx))
  rwa [ez] at a
theorem Isom.rows (h : Isom n f g F G e) (pf : IsP n f f') (pg : IsP n g g') (h0 : 0 < n) (hc : Conn n f g) {s : Nat} (hs : s < n) : Rs F G n (e s) = Rs f g n s ∧ Us F G n (e s) = Us f g n s := by
  have hb := h.bfs pf pg hs n
  have hlt := bfs_lt pf pg hs n
  have he : ∀ k, k < n → es F G n (e s) k = e (es f g n s k) := fun k hk => by
    unfold es
    rw [hb, List.getD_eq_getElem?_getD, List.getD_eq_getElem?_getD, List.getElem?_map, es_get pf pg h0 hs hc hk]
    rfl
  have hi : ∀ x, x < n → ei F G n (e s) (e x) = ei f g n s x := fun x hx => by
    unfold ei
    rw [hb]
    exact idxOf_map h.inj hx hlt
  have hp := es_perm pf pg h0 hs hc
  constructor
  · refine PL_eq fun k hk => ?_
    unfold rn
    have hk2 := hp.lt k hk
    rw [he k hk, h.f _ hk2, hi _ (pf.lt _ hk2)]
  · refine PL_eq fun k hk => ?_
    unfold rn
    have hk2 := hp.lt k hk
    rw [he k hk, h.g _ hk2, hi _ (pg.lt _ hk2)]
/-- no numbering is less than the best one -/
theorem lt_trans {xs ys zs : List Int} (h : Lt xs ys) (k : Lt ys zs) : Lt xs zs := by
  obtain ⟨i, a, b, h1, h2, h3, h4⟩ := h
  obtain ⟨j, c, d, k1, k2, k3, k4⟩ := k
  rcases Nat.lt_trichotomy i j with e | e | e
  · refine ⟨i, a, b, ?_, h2, ?_, h4⟩
    · rw [h1]
      have := congrArg (List.take i) k1
      rwa [List.take_take, List.take_take, Nat.min_eq_left (by omega)] at this
    · rw [← take_get k1 e]; exact h3
  · subst e
    rw [h3] at k2
    have := Option.some.inj k2
    exact ⟨i, a, d, h1.trans k1, h2, k3, by omega⟩
  · refine ⟨j, c, d, ?_, ?_, k3, k4⟩
    · rw [← k1]
      have := congrArg (List.take j) h1
      rwa [List.take_take, List.take_take, Nat.min_eq_left (by omega)] at this
    · rw [take_get h1 e]; exact k2
theorem lt_tri {xs ys : List Int} (hl : xs.length = ys.length) (h1 : ¬ Lt xs ys) (h2 : ¬ Lt ys xs) : xs = ys := by
  refine Classical.byContradiction fun hne => ?_
  obtain ⟨k, a, b, q1, q2, q3, q4⟩ := first_diff hl hne
  rcases Int.lt_trichotomy a b with e | e | e
  · exact h1 ⟨k, a, b, q1, q2, q3, e⟩
  · exact q4 e
  · exact h2 ⟨k, b, a, q1.symm, q3, q2, e⟩
theorem bst_min : ∀ (i : Nat), ∀ s, s < i → ¬ Bf f g n s (bst f g n i)
  | 0, s, hs => by omega
  | i + 1, s, hs => by
    by_cases h : Bf f g n i (bst f g n i)
    · rw [bst_yes h]
      by_cases e : s = i
      · subst e; exact lt_irr
      · intro hb
        exact bst_min i s (by omega) (lt_trans hb h)
    · rw [bst_no h]
      by_cases e : s = i
      · subst e; exact h
      · exact bst_min i s (by omega)
theorem Isom.label (h : Isom n f g F G e) (pf : IsP n f f') (pg : IsP n g g') (h0 : 0 < n) (hc : Conn n f g) :
    Rs F G n (bst F G n n) = Rs f g n (bst f g n n) ∧ Us F G n (bst F G n n) = Us f g n (bst f g n n) := by
  have b1 := bst_lt (f := f) (g := g) h0 n (Nat.le_refl _)
  have b2 := bst_lt (f := F) (g := G) h0 n (Nat.le_refl _)
  obtain ⟨x, hx, ex⟩ := h.onto b2
  have r1 := h.rows pf pg h0 hc hx
  have r2 := h.rows pf pg h0 hc b1
  have m1 := bst_min (f := f) (g := g) (n := n) n x hx
  have m2 := bst_min (f := F) (g := G) (n := n) n (e (bst f g n n)) (h.lt _ b1)
  unfold Bf at m1 m2
  rw [r2.1, r2.2] at m2
  rw [ex] at r1
  rw [r1.1, r1.2] at m2 ⊢
  have := lt_tri (xs := Rs f g n x ++ Us f g n x) (ys := Rs f g n (bst f g n n) ++ Us f g n (bst f g n n)) (by simp [Rs_len, Us_len]) m1 m2
  exact List.append_inj this (by simp [Rs_len])
end
end Go.PI
/- LETTERS that act on origamis: connected ones stay so; what the relations of SL(2, Z) make is isomorphic. -/
namespace Go.PI
set_option maxRecDepth 10000
set_option maxHeartbeats 4000000
/-- an origami: steps to the right and up, and back -/
structure O4 where
  f : Nat → Nat
  f' : Nat → Nat
  g : Nat → Nat
  g' : Nat → Nat
structure O4.Ok (o : O4) (n : Nat) : Prop where
  pr : IsP n o.f o.f'
  pu : IsP n o.g o.g'
/-- what a letter makes: 83 S, 115 s, 84 T, any other one t -/
def O4.S (o : O4) : O4 := ⟨o.g', o.g, o.f, o.f'⟩
def O4.s (o : O4) : O4 := ⟨o.g, o.g', o.f', o.f⟩
def O4.T (o : O4) : O4 := ⟨o.f, o.f', fun i => o.f' (o.g i), fun i => o.g' (o.f i)⟩
def O4.t (o : O4) : O4 := ⟨o.f, o.f', fun i => o.f (o.g i), fun i => o.g' (o.f' i)⟩
def O4.let (o : O4) (b : Nat) : O4 := if b = 83 then o.S else if b = 115 then o.s else if b = 84 then o.T else o.t
section
variable {o p : O4} {n : Nat}
theorem O4.Ok.S (h : o.Ok n) : o.S.Ok n := ⟨h.pu.inv, h.pr⟩
theorem O4.Ok.s (h : o.Ok n) : o.s.Ok n := ⟨h.pu, h.pr.inv⟩
theorem O4.Ok.T (h : o.Ok n) : o.T.Ok n := ⟨h.pr, h.pu.comp h.pr.inv⟩
theorem O4.Ok.t (h : o.Ok n) : o.t.Ok n := ⟨h.pr, h.pu.comp h.pr⟩
theorem O4.Ok.let (h : o.Ok n) (b : Nat) : (o.let b).Ok n := by
  unfold O4.let
  split
  · exact h.S
  split
  · exact h.s
  split
  · exact h.T
  · exact h.t
/-- the letters act from the last one on -/
def O4.act (o : O4) : List Nat → O4
  | [] => o
  | b :: w => (o.act w).let b
theorem O4.act_app {u v : List Nat} : o.act (u ++ v) = (o.act v).act u := by
  induction u with
  | nil => rfl
  | cons b u ih => show (o.act (u ++ v)).let b = _; rw [ih]; rfl
theorem O4.Ok.act (h : o.Ok n) : ∀ w, (o.act w).Ok n
  | [] => h
  | b :: w => (h.act w).let b
/-! ### Connected -/
theorem rch_of {F G f g : Nat → Nat} {s y : Nat} (hs : s < n) (hF : ∀ x, x < n → Rch f g x (F x)) (hG : ∀ x, x < n → Rch f g x (G x)) (hl : ∀ x, x < n → F x < n ∧ G x < n) (h : Rch F G s y) : Rch f g s y ∧ y < n := by
  induction h with
  | refl => exact ⟨.refl, hs⟩
  | f _ ih => exact ⟨ih.1.trans (hF _ ih.2), (hl _ ih.2).1⟩
  | g _ ih => exact ⟨ih.1.trans (hG _ ih.2), (hl _ ih.2).2⟩
theorem conn_of {F G f g : Nat → Nat} (h0 : 0 < n) (hF : ∀ x, x < n → Rch f g x (F x)) (hG : ∀ x, x < n → Rch f g x (G x)) (hl : ∀ x, x < n → F x < n ∧ G x < n) (h : Conn n F G) : Conn n f g := fun y hy => (rch_of h0 hF hG hl (h y hy)).1
theorem rch_one {f g : Nat → Nat} {x : Nat} : Rch f g x (f x) := .f .refl
theorem rch_two {f g : Nat → Nat} {x : Nat} : Rch f g x (g x) := .g .refl
/-- a step back -/
theorem rch_b1 (h : o.Ok n) {x : Nat} (hx : x < n) : Rch o.f o.g x (o.f' x) := by
  have := (rch_one (f := o.f) (g := o.g) (x := o.f' x)).symm h.pr h.pu (h.pr.glt x hx)
  rwa [h.pr.fg x hx] at this
theorem rch_b2 (h : o.Ok n) {x : Nat} (hx : x < n) : Rch o.f o.g x (o.g' x) := by
  have := (rch_two (f := o.f) (g := o.g) (x := o.g' x)).symm h.pr h.pu (h.pu.glt x hx)
  rwa [h.pu.fg x hx] at this
theorem O4.conn_let (h : o.Ok n) (h0 : 0 < n) (hc : Conn n o.f o.g) (b : Nat) : Conn n (o.let b).f (o.let b).g := by
  have hl : ∀ x, x < n → o.f x < n ∧ o.g x < n := fun x hx => ⟨h.pr.lt x hx, h.pu.lt x hx⟩
  have key : ∀ q : O4, q.Ok n → (∀ x, x < n → Rch q.f q.g x (o.f x)) → (∀ x, x < n → Rch q.f q.g x (o.g x)) → Conn n q.f q.g := fun q _ a b => conn_of h0 a b hl hc
  unfold O4.let
  split
  · refine key _ h.S (fun x hx => rch_two) fun x hx => rch_b1 h.S hx
  split
  · refine key _ h.s (fun x hx => rch_b2 h.s hx) fun x hx => rch_one
  split
  · refine key _ h.T (fun x hx => rch_one) fun x hx => ?_
    have : Rch o.f (fun i => o.f' (o.g i)) x (o.f (o.f' (o.g x))) := .f (.g .refl)
    rw [h.pr.fg _ (h.pu.lt x hx)] at this
    exact this
  · refine key _ h.t (fun x hx => rch_one) fun x hx => ?_
    have a : Rch o.f (fun i => o.f (o.g i)) x (o.f (o.g x)) := .g .refl
    have b := rch_b1 h.t (h.t.pu.lt x hx)
    have e : o.t.f' (o.t.g x) = o.g x := h.pr.gf _ (h.pu.lt x hx)
    rw [e] at b
    exact Rch.trans a b
theorem O4.conn_act (h : o.Ok n) (h0 : 0 < n) (hc : Conn n o.f o.g) : ∀ w, Conn n (o.act w).f (o.act w).g
  | [] => hc
  | b :: w => conn_let (h.act w) h0 (conn_act h h0 hc w) b
/-! ### Isomorphisms -/
structure Iso4 (n : Nat) (o p : O4) (e : Nat → Nat) : Prop where
  lt : ∀ x, x < n → e x < n
  inj : ∀ x y, x < n → y < n → e x = e y → x = y
  f : ∀ x, x < n → p.f (e x) = e (o.f x)
  f' : ∀ x, x < n → p.f' (e x) = e (o.f' x)
  g : ∀ x, x < n → p.g (e x) = e (o.g x)
  g' : ∀ x, x < n → p.g' (e x) = e (o.g' x)
theorem Iso4.of {e : Nat → Nat} (h : o.Ok n) (k : p.Ok n) (i : Isom n o.f o.g p.f p.g e) : Iso4 n o p e :=
  ⟨i.lt, i.inj, i.f, fun x hx => by
    have := i.f _ (h.pr.glt x hx)
    rw [h.pr.fg x hx] at this
    rw [← this, k.pr.gf _ (i.lt _ (h.pr.glt x hx))], i.g, fun x hx => by
    have := i.g _ (h.pu.glt x hx)
    rw [h.pu.fg x hx] at this
    rw [← this, k.pu.gf _ (i.lt _ (h.pu.glt x hx))]⟩
theorem Iso4.to {e : Nat → Nat} (i : Iso4 n o p e) : Isom n o.f o.g p.f p.g e := ⟨i.lt, i.inj, i.f, i.g⟩
theorem Iso4.let {e : Nat → Nat} (h : o.Ok n) (i : Iso4 n o p e) (b : Nat) : Iso4 n (o.let b) (p.let b) e := by
  unfold O4.let
  split
  · exact ⟨i.lt, i.inj, i.g', i.g, i.f, i.f'⟩
  split
  · exact ⟨i.lt, i.inj, i.g, i.g', i.f', i.f⟩
  split
  · exact ⟨i.lt, i.inj, i.f, i.f', fun x hx => by show p.f' (p.g (e x)) = e (o.f' (o.g x)); rw [i.g x hx, i.f' _ (h.pu.lt x hx)], fun x hx => by show p.g' (p.f (e x)) = e (o.g' (o.f x)); rw [i.f x hx, i.g' _ (h.pr.lt x hx)]⟩
  · exact ⟨i.lt, i.inj, i.f, i.f', fun x hx => by show p.f (p.g (e x)) = e (o.f (o.g x)); rw [i.g x hx, i.f _ (h.pu.lt x hx)], fun x hx => by show p.g' (p.f' (e x)) = e (o.g' (o.f' x)); rw [i.f' x hx, i.g' _ (h.pr.glt x hx)]⟩
theorem Iso4.act {e : Nat → Nat} (h : o.Ok n) (i : Iso4 n o p e) : ∀ w, Iso4 n (o.act w) (p.act w) e
  | [] => i
  | b :: w => (i.act h w).let (h.act w) b
/-- the relations, as bytes -/
def rel1 : List Nat := [83, 83, 83, 83]
def rel2 : List Nat := [83, 84, 83, 84, 83, 84, 115, 115]
def rel3 : List Nat := [83, 84, 83, 84, 83, 84, 83, 84, 83, 84, 83, 84]
def rel4 : List Nat := [83, 83, 84, 115, 115, 116]
theorem act_rel1 : o.act rel1 = o := rfl
theorem comp_inj {e d : Nat → Nat} (h1 : ∀ x, x < n → d x < n) (h2 : ∀ x y, x < n → y < n → d x = d y → x = y) (h3 : ∀ x y, x < n → y < n → e x = e y → x = y) : ∀ x y, x < n → y < n → e (d x) = e (d y) → x = y :=
  fun x y hx hy h => h2 x y hx hy (h3 _ _ (h1 x hx) (h1 y hy) h)
theorem IsP.inj' {f g : Nat → Nat} (h : IsP n f g) : ∀ x y, x < n → y < n → f x = f y → x = y := fun _ _ hx hy e => h.inj hx hy e
theorem act_rel2 (h : o.Ok n) : Iso4 n o (o.act rel2) fun x => o.f (o.g' x) := by
  refine Iso4.of h (h.act _) ⟨fun x hx => h.pr.lt _ (h.pu.glt x hx), comp_inj h.pu.glt h.pu.inv.inj' h.pr.inj', fun x hx => ?_, fun x hx => ?_⟩
  · have a1 := h.pu.glt x hx
    have a2 := h.pr.lt x hx
    have a3 := h.pu.glt _ a2
    show (o.act rel2).f (o.f (o.g' x)) = o.f (o.g' (o.f x))
    show o.f (o.g' (o.f (o.g (o.f' (o.f (o.g' x)))))) = o.f (o.g' (o.f x))
    rw [h.pr.gf _ a1, h.pu.fg _ hx]
  · have a1 := h.pu.glt x hx
    show o.f (o.g (o.f' (o.f (o.g' x)))) = o.f (o.g' (o.g x))
    rw [h.pr.gf _ a1, h.pu.fg _ hx, h.pu.gf _ hx]
theorem Iso4.trans {q : O4} {e d : Nat → Nat} (i : Iso4 n o p e) (j : Iso4 n p q d) : Iso4 n o q fun x => d (e x) :=
  ⟨fun x hx => j.lt _ (i.lt x hx), comp_inj i.lt i.inj j.inj, fun x hx => by rw [j.f _ (i.lt x hx), i.f x hx], fun x hx => by rw [j.f' _ (i.lt x hx), i.f' x hx], fun x hx => by rw [j.g _ (i.lt x hx), i.g x hx], fun x hx => by rw [j.g' _ (i.lt x hx), i.g' x hx]⟩
theorem Iso4.refl (h : o.Ok n) : Iso4 n o o fun x => x := ⟨fun _ h => h, fun _ _ _ _ e => e, fun _ _ => rfl, fun _ _ => rfl, fun _ _ => rfl, fun _ _ => rfl⟩
def rel0 : List Nat := [83, 84, 83, 84, 83, 84]
theorem act_rel3 (h : o.Ok n) : ∃ e, Iso4 n o (o.act rel3) e := by
  have i1 : Iso4 n (o.act [115, 115]) (o.act rel0) _ := act_rel2 (h.act [115, 115])
  have i2 : Iso4 n ((o.act [115, 115]).act rel0) ((o.act rel0).act rel0) _ := i1.act (h.act [115, 115]) rel0
  have i3 : Iso4 n o ((o.act [115, 115]).act rel0) _ := act_rel2 h
  exact ⟨_, i3.trans i2⟩
theorem act_rel4 (h : o.Ok n) : Iso4 n o (o.act rel4) o.f := by
  refine Iso4.of h (h.act _) ⟨h.pr.lt, h.pr.inj', fun x hx => rfl, fun x hx => ?_⟩
  show o.f (o.g (o.f' (o.f x))) = o.f (o.g x)
  rw [h.pr.gf _ hx]
/-- a relation, put in anywhere -/
theorem act_rel (h : o.Ok n) (u v : List Nat) {rel : List Nat} (hr : rel = rel1 ∨ rel = rel2 ∨ rel = rel3 ∨ rel = rel4) : ∃ e, Iso4 n (o.act (u ++ v)) (o.act (u ++ rel ++ v)) e := by
  have hv := h.act v
  have key : ∃ e, Iso4 n (o.act v) ((o.act v).act rel) e := by
    rcases hr with rfl | rfl | rfl | rfl
    · exact ⟨_, Iso4.refl hv⟩
    · exact ⟨_, act_rel2 hv⟩
    · exact act_rel3 hv
    · exact ⟨_, act_rel4 hv⟩
  obtain ⟨e, he⟩ := key
  refine ⟨e, ?_⟩
  rw [List.append_assoc, O4.act_app, O4.act_app, O4.act_app]
  exact he.act hv u
/-- the inverse of a word -/
def invB (b : Nat) : Nat := if b = 83 then 115 else if b = 115 then 83 else if b = 84 then 116 else 84
def backW (w : List Nat) : List Nat := (w.map invB).reverse
def IsLet (b : Nat) : Prop := b = 83 ∨ b = 115 ∨ b = 84 ∨ b = 116
/-- two origamis whose steps are the same -/
structure Eq4 (n : Nat) (o p : O4) : Prop where
  f : ∀ x, x < n → o.f x = p.f x
  f' : ∀ x, x < n → o.f' x = p.f' x
  g : ∀ x, x < n → o.g x = p.g x
  g' : ∀ x, x < n → o.g' x = p.g' x
theorem Eq4.let (h : o.Ok n) (i : Eq4 n o p) (b : Nat) : Eq4 n (o.let b) (p.let b) := by
  have j : Iso4 n o p fun x => x := ⟨fun _ h => h, fun _ _ _ _ e => e, fun x hx => (i.f x hx).symm, fun x hx => (i.f' x hx).symm, fun x hx => (i.g x hx).symm, fun x hx => (i.g' x hx).symm⟩
  have k := j.let h b
  exact ⟨fun x hx => (k.f x hx).symm, fun x hx => (k.f' x hx).symm, fun x hx => (k.g x hx).symm, fun x hx => (k.g' x hx).symm⟩
theorem Eq4.act (h : o.Ok n) (i : Eq4 n o p) : ∀ w, Eq4 n (o.act w) (p.act w)
  | [] => i
  | b :: w => (i.act h w).let (h.act w) b
theorem Eq4.trans {q : O4} (i : Eq4 n o p) (j : Eq4 n p q) : Eq4 n o q := ⟨fun x hx => (i.f x hx).trans (j.f x hx), fun x hx => (i.f' x hx).trans (j.f' x hx), fun x hx => (i.g x hx).trans (j.g x hx), fun x hx => (i.g' x hx).trans (j.g' x hx)⟩
theorem let_inv (h : o.Ok n) {b : Nat} (hb : IsLet b) : Eq4 n ((o.let b).let (invB b)) o := by
  rcases hb with rfl | rfl | rfl | rfl
  · exact ⟨fun _ _ => rfl, fun _ _ => rfl, fun _ _ => rfl, fun _ _ => rfl⟩
  · exact ⟨fun _ _ => rfl, fun _ _ => rfl, fun _ _ => rfl, fun _ _ => rfl⟩
  · exact ⟨fun _ _ => rfl, fun _ _ => rfl, fun x hx => h.pr.fg _ (h.pu.lt x hx), fun x hx => by show o.g' (o.f (o.f' x)) = o.g' x; rw [h.pr.fg _ hx]⟩
  · exact ⟨fun _ _ => rfl, fun _ _ => rfl, fun x hx => h.pr.gf _ (h.pu.lt x hx), fun x hx => by show o.g' (o.f' (o.f x)) = o.g' x; rw [h.pr.gf _ hx]⟩
theorem act_back (h : o.Ok n) : ∀ w, (∀ b ∈ w, IsLet b) → Eq4 n ((o.act w).act (backW w)) o
  | [], _ => ⟨fun _ _ => rfl, fun _ _ => rfl, fun _ _ => rfl, fun _ _ => rfl⟩
  | b :: w, hw => by
    have e : backW (b :: w) = backW w ++ [invB b] := by simp [backW]
    rw [e, O4.act_app]
    have h1 := h.act w
    have i1 : Eq4 n ((o.act (b :: w)).act [invB b]) (o.act w) := let_inv h1 (hw b (by simp))
    have h2 : ((o.act (b :: w)).act [invB b]).Ok n := (h.act (b :: w)).act _
    exact (i1.act h2 (backW w)).trans (act_back h w fun c hc => hw c (by simp [hc]))
end
end Go.PI
/- ONE STEP ALONG A CYCLE, forth or back. -/
namespace Go.PI
set_option maxRecDepth 10000
set_option maxHeartbeats 4000000
/-- one step forth (k = 1) or back (k = -1) -/
def stp (f f' : Nat → Nat) (k : Int) : Nat → Nat := if k = 1 then f else f'
theorem stp_perm {n : Nat} {f f' : Nat → Nat} (h : IsP n f f') {k : Int} : IsP n (stp f f' k) (stp f' f k) := by
  unfold stp
  split
  · exact h
  · exact h.inv
/-- the place k steps behind place i, as the program finds it -/
def plc (i k m : Int) : Int := ((i + k).tmod m + m).tmod m
theorem tm_lt {a m : Int} (h0 : 0 ≤ a) (h1 : a < m) : a.tmod m = a := by rw [Int.tmod_eq_emod_of_nonneg h0, Int.emod_eq_of_lt h0 h1]
theorem tm_add {a m : Int} (h0 : 0 ≤ a) (h1 : a < m) : (a + m).tmod m = a := by rw [Int.tmod_eq_emod_of_nonneg (by omega), Int.add_emod_right, Int.emod_eq_of_lt h0 h1]
theorem tm_self {m : Int} (h : 0 < m) : m.tmod m = 0 := by rw [Int.tmod_eq_emod_of_nonneg (by omega), Int.emod_self]
theorem plc_is {i m : Nat} {k : Int} (hi : i < m) (hk : k = 1 ∨ k = -1) : plc i k m = (if k = 1 then (if i + 1 = m then 0 else (i + 1 : Nat)) else if i = 0 then (m - 1 : Nat) else (i - 1 : Nat) : Int) := by
  unfold plc
  rcases hk with rfl | rfl
  · rw [if_pos rfl]
    by_cases e : i + 1 = m
    · have e2 : (i : Int) + 1 = m := by omega
      rw [if_pos e, e2, tm_self (by omega), Int.zero_add, tm_self (by omega)]
    · rw [if_neg e, tm_lt (a := (i : Int) + 1) (by omega) (by omega), tm_add (by omega) (by omega)]
      omega
  · rw [if_neg (by decide)]
    by_cases e : i = 0
    · subst e
      rw [if_pos rfl]
      by_cases e1 : m = 1
      · subst e1; decide
      · have h0 : ((0 : Nat) : Int) + -1 = -1 := by omega
        have h1 : (-1 : Int).tmod m = -1 := by rw [Int.neg_tmod, tm_lt (by omega) (by omega)]
        rw [h0, h1, tm_lt (by omega) (by omega)]
        omega
    · rw [if_neg e, tm_lt (a := (i : Int) + -1) (by omega) (by omega), tm_add (by omega) (by omega)]
      omega
theorem plc_at {n x i : Nat} {f f' : Nat → Nat} {k : Int} (h : IsP n f f') (hx : x < n) (hi : i < ordr f x) (hk : k = 1 ∨ k = -1) :
    0 ≤ plc i k (ordr f x) ∧ plc i k (ordr f x) < ordr f x ∧ (cyc f x)[(plc i k (ordr f x)).toNat]? = some ((stp f f' k (it f i x) : Nat) : Int) := by
  obtain ⟨o1, o2, o3, o4⟩ := ordr_spec h hx
  have hp := plc_is hi hk
  have hat : ∀ j, j < ordr f x → (cyc f x)[j]? = some ((it f j x : Nat) : Int) := fun j hj => by simp [cyc, hj]
  unfold stp
  rcases hk with rfl | rfl
  · rw [if_pos rfl] at hp ⊢
    by_cases e : i + 1 = ordr f x
    · rw [if_pos e] at hp
      rw [hp]
      refine ⟨by omega, by omega, ?_⟩
      have : it f (i + 1) x = x := by rw [e]; exact o2
      rw [show (0 : Int).toNat = 0 from rfl, hat 0 o1]
      show some ((x : Nat) : Int) = some ((it f (i + 1) x : Nat) : Int)
      rw [this]
    · rw [if_neg e] at hp
      rw [hp]
      refine ⟨by omega, by omega, ?_⟩
      rw [show (((i + 1 : Nat) : Int)).toNat = i + 1 from by omega, hat (i + 1) (by omega)]
      rfl
  · rw [if_neg (by decide)] at hp ⊢
    by_cases e : i = 0
    · rw [if_pos e] at hp
      rw [hp]
      refine ⟨by omega, by omega, ?_⟩
      subst e
      rw [show (((ordr f x - 1 : Nat) : Int)).toNat = ordr f x - 1 from by omega, hat _ (by omega)]
      have h1 : f (it f (ordr f x - 1) x) = x := by
        have : it f (ordr f x - 1 + 1) x = x := by rw [show ordr f x - 1 + 1 = ordr f x by omega]; exact o2
        exact this
      have h2 := h.gf _ (it_lt h hx (ordr f x - 1))
      rw [h1] at h2
      show _ = some ((f' x : Nat) : Int)
      rw [h2]
    · rw [if_neg e] at hp
      rw [hp]
      refine ⟨by omega, by omega, ?_⟩
      rw [show (((i - 1 : Nat) : Int)).toNat = i - 1 from by omega, hat _ (by omega)]
      obtain ⟨j, rfl⟩ : ∃ j, i = j + 1 := ⟨i - 1, by omega⟩
      show _ = some ((f' (f (it f j x)) : Nat) : Int)
      rw [h.gf _ (it_lt h hx j)]
      rfl
/-- a list in which all elements of the first j cycles have their steps, and of the cycle of x the first i -/
def PT (n : Nat) (h : Nat → Nat) (P : Nat → Prop) (ys : List Int) : Prop := ys.length = n ∧ ∀ y, y < n → P y → ys[y]? = some ((h y : Nat) : Int)
theorem pt_set {n y : Nat} {h : Nat → Nat} {P Q : Nat → Prop} {ys : List Int} (a : PT n h P ys) (hy : y < n) (hQ : ∀ z, Q z → P z ∨ z = y) : PT n h Q (ys.set y ((h y : Nat) : Int)) := by
  refine ⟨by rw [List.length_set]; exact a.1, fun z hz hq => ?_⟩
  by_cases e : z = y
  · subst e; rw [List.getElem?_set_self (by rw [a.1]; exact hz)]
  · rw [List.getElem?_set_ne (Ne.symm e)]
    rcases hQ z hq with h1 | h1
    · exact a.2 z hz h1
    · exact absurd h1 e
theorem pt_mono {n : Nat} {h : Nat → Nat} {P Q : Nat → Prop} {ys : List Int} (a : PT n h P ys) (hQ : ∀ z, z < n → Q z → P z) : PT n h Q ys := ⟨a.1, fun z hz hq => a.2 z hz (hQ z hz hq)⟩
theorem pt_done {n : Nat} {h : Nat → Nat} {P : Nat → Prop} {ys : List Int} (a : PT n h P ys) (hP : ∀ z, z < n → P z) : ys = PL n h := PL_ext a.1 fun i hi => a.2 i hi (hP i hi)
/-- y is in one of the first j cycles -/
def InCy (n : Nat) (f : Nat → Nat) (j y : Nat) : Prop := ∃ c ∈ (cycs n f).take j, (y : Int) ∈ c
open Classical in
theorem cycs_memP {n : Nat} {f : Nat → Nat} {c : List Int} : c ∈ cycs n f ↔ ∃ x, x < n ∧ lead f x ∧ c = cyc f x := by
  unfold cycs
  rw [List.mem_map]
  constructor
  · rintro ⟨x, hx, rfl⟩
    have := List.mem_filter.1 hx
    exact ⟨x, List.mem_range.1 this.1, by simpa using this.2, rfl⟩
  · rintro ⟨x, hx, hl, rfl⟩
    exact ⟨x, List.mem_filter.2 ⟨List.mem_range.2 hx, by simpa using hl⟩, rfl⟩
theorem cycs_all {n : Nat} {f f' : Nat → Nat} (h : IsP n f f') {y : Nat} (hy : y < n) : ∃ c ∈ cycs n f, (y : Int) ∈ c := by
  obtain ⟨x, hx, hmin⟩ := ex_least (P := fun x => InC f y x) ⟨y, InC.refl f y⟩
  have hxn : x < n := by
    obtain ⟨k, rfl⟩ := hx
    exact it_lt h hy k
  have hxy : InC f x y := hx.symm h hy
  refine ⟨cyc f x, cycs_memP.2 ⟨x, hxn, fun z hz => ?_, rfl⟩, (mem_cyc h hxn).2 ⟨y, rfl, hxy⟩⟩
  exact Nat.le_of_not_lt fun hlt => hmin z hlt (hx.trans hz)
end Go.PI
