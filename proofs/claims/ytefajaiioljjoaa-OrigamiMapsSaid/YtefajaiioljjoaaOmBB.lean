/- Own work of the verifier: OgX OzA OgY OgZ OgAa OgAb OgAc OgAd OzB. -/
import Derived.Test.YtefajaiioljjoaaOmBA
import Derived.Test.YtefajaiioljjoaaOmAW
set_option linter.all false
set_option exponentiation.threshold 3000
set_option linter.deprecated false
/- COMPONENTS of the reference, all of them; whether an origami is one that is connected. -/
open Go.Proofs
namespace Go.PI
open IM
set_option maxRecDepth 10000
set_option maxHeartbeats 4000000
variable (S : FuncId → Option (List AV → Heap → Option (AV × Heap)))
def Low (f g : Nat → Nat) (s : Nat) : Prop := ∀ y, y < s → ¬ Rch f g s y
theorem mem_compTo {f g : Nat → Nat} {s n y : Nat} : y ∈ compTo f g s n ↔ y < n ∧ Rch f g s y := by
  unfold compTo
  rw [List.mem_filter, List.mem_range]
  simp
theorem comp_head {f g : Nat → Nat} {s n : Nat} (hs : s < n) : ∃ h, (compTo f g s n)[0]? = some h ∧ Rch f g s h ∧ h ≤ s ∧ ∀ y, y < n → Rch f g s y → h ≤ y := by
  have hm : s ∈ compTo f g s n := mem_compTo.2 ⟨hs, .refl⟩
  have hp : (compTo f g s n).Pairwise (· < ·) := List.Pairwise.filter _ List.pairwise_lt_range
  have hmem := fun y => mem_compTo (f := f) (g := g) (s := s) (n := n) (y := y)
  cases hc : compTo f g s n with
  | nil => rw [hc] at hm; simp at hm
  | cons h t =>
    rw [hc] at hp hm hmem
    have hall : ∀ y, y < n → Rch f g s y → h ≤ y := fun y hy hr => by
      rcases List.mem_cons.1 ((hmem y).2 ⟨hy, hr⟩) with e | e
      · omega
      · have := List.rel_of_pairwise_cons hp e; omega
    exact ⟨h, rfl, ((hmem h).1 (by simp)).2, hall s hs .refl, hall⟩
theorem head_low {f g : Nat → Nat} {s n h : Nat} (hs : s < n) (hr : Rch f g s h) (hle : h ≤ s) (ha : ∀ y, y < n → Rch f g s y → h ≤ y) : h = s ↔ Low f g s := by
  constructor
  · rintro rfl y hy hc
    have := ha y (by omega) hc
    omega
  · intro hl
    refine Classical.byContradiction fun hne => hl h (by omega) hr
open Classical in
noncomputable def lows (f g : Nat → Nat) (k : Nat) : List Nat := (List.range k).filter fun y => decide (Low f g y)
theorem mem_lows {f g : Nat → Nat} {k y : Nat} : y ∈ lows f g k ↔ y < k ∧ Low f g y := by
  unfold lows
  rw [List.mem_filter, List.mem_range]
  simp
theorem lows_yes {f g : Nat → Nat} {k : Nat} (h : Low f g k) : lows f g (k + 1) = lows f g k ++ [k] := by
  unfold lows
  rw [List.range_succ, List.filter_append, List.filter_cons_of_pos (by simpa using h)]
  rfl
theorem lows_no {f g : Nat → Nat} {k : Nat} (h : ¬ Low f g k) : lows f g (k + 1) = lows f g k := by
  unfold lows
  rw [List.range_succ, List.filter_append, List.filter_cons_of_neg (by simpa using h)]
  simp
theorem lows_len {f g : Nat → Nat} {k : Nat} : (lows f g k).length ≤ k := by
  have := List.length_filter_le (fun y => @decide (Low f g y) (Classical.propDecidable _)) (List.range k)
  rw [List.length_range] at this
  exact this
theorem lows_nodup {f g : Nat → Nat} {k : Nat} : (lows f g k).Nodup := by
  unfold lows List.Nodup
  exact (List.Pairwise.filter _ List.pairwise_lt_range).imp fun h e => by omega
noncomputable def compsTo (f g : Nat → Nat) (n k : Nat) : List (List Int) := (lows f g k).map fun s => NL (compTo f g s n)
theorem compsTo_len {f g : Nat → Nat} {n k : Nat} : (compsTo f g n k).length = (lows f g k).length := by unfold compsTo; rw [List.length_map]
theorem compsTo_yes {f g : Nat → Nat} {n k : Nat} (h : Low f g k) : compsTo f g n (k + 1) = compsTo f g n k ++ [NL (compTo f g k n)] := by
  unfold compsTo
  rw [lows_yes h, List.map_append]
  rfl
theorem compsTo_no {f g : Nat → Nat} {n k : Nat} (h : ¬ Low f g k) : compsTo f g n (k + 1) = compsTo f g n k := by
  unfold compsTo
  rw [lows_no h]
theorem low_zero {f g : Nat → Nat} : Low f g 0 := fun y hy => by omega
theorem conn_comps {n : Nat} {f f' g g' : Nat → Nat} (pf : IsP n f f') (pg : IsP n g g') (h0 : 0 < n) : (compsTo f g n n).length = 1 ↔ Conn n f g := by
  rw [compsTo_len]
  have hz : 0 ∈ lows f g n := mem_lows.2 ⟨h0, low_zero⟩
  constructor
  · intro e y hy
    refine Classical.byContradiction fun hc => ?_
    obtain ⟨h, -, hr, hle, ha⟩ := comp_head (f := f) (g := g) hy
    have hhn : h < n := by omega
    have hlow : Low f g h := fun z hz hzr => by
      have := ha z (by omega) (hr.trans hzr)
      omega
    have hne : h ≠ 0 := fun e0 => by
      subst e0
      exact hc (hr.symm pf pg hy)
    have := len_le_of (l := [0, h]) (m := lows f g n) (by simp; omega) fun z hz' => by
      simp at hz'
      rcases hz' with rfl | rfl
      · exact hz
      · exact mem_lows.2 ⟨hhn, hlow⟩
    simp at this
    omega
  · intro hc
    have h1 := len_le_of (l := lows f g n) (m := [0]) lows_nodup fun z hz' => by
      obtain ⟨a, b⟩ := mem_lows.1 hz'
      rw [List.mem_singleton]
      refine Classical.byContradiction fun hne => b 0 (by omega) ((hc z a).symm pf pg h0)
    have h2 := len_le_of (l := [0]) (m := lows f g n) (by simp) fun z hz' => by
      rw [List.mem_singleton.1 hz']; exact hz
    simp at h1 h2
    omega
theorem fn20 : ctx.fn 20 = some c20 := by kernel_rfl
theorem rcomponents_ct (hS : OldO S) {r u : List Int} {n : Nat} {f f' g g' : Nat → Nat} (ho : IsO r u n f f' g g') :
    Ct (ctx.plus S) 20 [pO r u] 310000 fun w => w = pM (compsTo f g n n) := by
  have hn := ho.le
  have hrl := ho.l1.1
  refine ct_of (hS 20 (by decide)) fn20 ?_
  refine ⟨by omega, ?_⟩
  refine ⟨fun m st => ∃ (k b : Nat) (v : PV) (σ : List StB) (T : List PV), st = ⟨T, σ, b⟩ ∧ Gt T 25 [(1, .optr 0 0), (3, v), (4, pn k)] ∧ m = n - k ∧ k ≤ n ∧ b ≤ 4 + 5010 * k ∧ Hid (σ[0]? = some (.live 24 [pIs r, pIs u]) ∧ blkOf v ≠ some 0 ∧ Gr pIs 22 v σ (compsTo f g n k)), ⟨_, ci ⟨0, _, .nils, _, _, rfl, ⟨rfl, rfl, rfl, rfl, trivial⟩, rfl, Nat.zero_le _, by omega, ⟨rfl, (fun h => by cases h), .nil⟩⟩⟩, ?_⟩
  rintro _ st ⟨k, b, v, σ, T, rfl, hT, rfl, hk, hb, hh⟩
  obtain ⟨J, rfl⟩ := gt_open hT
  clear hT
  obtain ⟨d1, d3, d5⟩ := hh.h
  have l0 := (List.getElem?_eq_some_iff.1 d1).1
  refine ⟨_, load_c (contOf_live d1) rfl rfl, ?_⟩
  refine callq rfl (size_ct S hS (r := r) (u := u)) (by omega) ?_
  rintro _ rfl
  refine ⟨fun hlt => ?_, fun hge => ?_⟩
  · have hkn : k < n := by omega
    obtain ⟨h, hh0, hr, hle, ha⟩ := comp_head (f := f) (g := g) hkn
    have hlow := head_low hkn hr hle ha
    have hcl : (compTo f g k n).length ≤ n := compTo_len
    have hnl : (NL (compTo f g k n)).length = (compTo f g k n).length := NL_len
    have hpos := (List.getElem?_eq_some_iff.1 hh0).1
    refine ⟨_, load_c (contOf_live d1) rfl rfl, ?_⟩
    refine callq rfl (component_ct S hS ho hkn) (by omega) ?_
    rintro _ rfl
    refine ⟨⟨⟨by omega, by omega⟩, len_map_le (by omega)⟩, ?_⟩
    refine ⟨_, ld (at_map (NL_get hh0)) (by show _ * 1 = 0; omega), ?_⟩
    refine ⟨fun heq => ?_, fun hne => ?_⟩
    · have hL : Low f g k := hlow.1 (by omega)
      refine ⟨by omega, part1 fzL ⟨[pIs (NL (compTo f g k n))], rfl, ?_⟩⟩
      have hcn : (compsTo f g n k).length ≤ k := by rw [compsTo_len]; exact lows_len
      refine appG (f := pIs) (e := 22) (y := NL (compTo f g k n)) d5.push push_cont rfl rfl rfl rfl (by kernel_rfl) rfl rfl (by omega) (by omega) fun v' σ' hv' hkp hbv => ?_
      have hne : ∀ q, q < σ.length → blkOf v' ≠ some q := fun q hq e => by
        rw [hbv] at e; have := Option.some.inj e; rw [List.length_append, List.length_singleton] at this; omega
      refine ⟨⟨by omega, by omega⟩, ?_⟩
      exact ⟨_, by omega, ci ⟨k + 1, _, v', σ', _, rfl, ⟨rfl, rfl, rfl, rfl, trivial⟩, rfl, by omega, by omega, ⟨hkp 0 _ d3 (push_old d1), hne 0 l0, by rw [compsTo_yes hL]; exact hv'⟩⟩⟩
    · have hL : ¬ Low f g k := fun hc => hne (by have := hlow.2 hc; omega)
      refine ⟨⟨by omega, by omega⟩, ?_⟩
      exact ⟨_, by omega, ci ⟨k + 1, _, v, σ, _, rfl, ⟨rfl, rfl, rfl, rfl, trivial⟩, rfl, by omega, by omega, ⟨d1, d3, by rw [compsTo_no hL]; exact d5⟩⟩⟩
  · have hkn : k = n := by omega
    subst hkn
    obtain ⟨σ', hf⟩ := d5.fz
    exact endf hf rfl
theorem fn74 : ctx.fn 74 = some c74 := by kernel_rfl
theorem rconnected_ct (hS : OldO S) {r u : List Int} {n : Nat} {f f' g g' : Nat → Nat} (ho : IsO r u n f f' g g') :
    Ct (ctx.plus S) 74 [pO r u] 310001 fun w => (Conn n f g ∧ w = .bool true) ∨ (¬ Conn n f g ∧ w = .bool false) := by
  have h1 := conn_comps ho.pr ho.pu ho.pos
  refine ct_of (hS 74 (by decide)) fn74 ?_
  refine ⟨by omega, ?_⟩
  refine ⟨_, rfl, ?_⟩
  refine callq rfl (rcomponents_ct S hS ho) (by omega) ?_
  rintro _ rfl
  refine ⟨fun h => ?_, fun h => ?_⟩
  · exact endq rfl (.inl ⟨h1.1 (by omega), rfl⟩)
  · exact endq rfl (.inr ⟨fun hc => h (by have := h1.2 hc; omega), rfl⟩)
end Go.PI
/- MAPS OF SQUARES: two ways to find the one that takes square 0 to a square. -/
open Go.Proofs
namespace Go.PI
open IM
inductive Jr (f g F G : Nat → Nat) (s : Nat) : Nat → Nat → Prop
  | base : Jr f g F G s 0 s
  | f {y z : Nat} (h : Jr f g F G s y z) : Jr f g F G s (f y) (F z)
  | g {y z : Nat} (h : Jr f g F G s y z) : Jr f g F G s (g y) (G z)
structure MapAt (n m s : Nat) (f g F G h : Nat → Nat) : Prop where
  z : h 0 = s
  lt : ∀ x, x < n → h x < m
  c : ∀ x, x < n → h (f x) = F (h x) ∧ h (g x) = G (h x)
section
variable {n m s : Nat} {f f' g g' F F' G G' h : Nat → Nat}
theorem jr_lt (pf : IsP n f f') (pg : IsP n g g') (pF : IsP m F F') (pG : IsP m G G') (h0 : 0 < n) (hs : s < m) {y z : Nat} (hj : Jr f g F G s y z) : y < n ∧ z < m := by
  induction hj with
  | base => exact ⟨h0, hs⟩
  | f _ ih => exact ⟨pf.lt _ ih.1, pF.lt _ ih.2⟩
  | g _ ih => exact ⟨pg.lt _ ih.1, pG.lt _ ih.2⟩
theorem jr_map (pf : IsP n f f') (pg : IsP n g g') (h0 : 0 < n) (hm : MapAt n m s f g F G h) {y z : Nat} (hj : Jr f g F G s y z) : y < n ∧ z = h y := by
  induction hj with
  | base => exact ⟨h0, hm.z.symm⟩
  | @f y z _ ih => exact ⟨pf.lt _ ih.1, by rw [(hm.c y ih.1).1, ← ih.2]⟩
  | @g y z _ ih => exact ⟨pg.lt _ ih.1, by rw [(hm.c y ih.1).2, ← ih.2]⟩
theorem jr_back (pf : IsP n f f') (pg : IsP n g g') (pF : IsP m F F') (pG : IsP m G G') (h0 : 0 < n) (hs : s < m) (hl : ∀ x, x < n → h x < m) (hc : ∀ x, x < n → h (f x) = F (h x) ∧ h (g x) = G (h x)) {y z : Nat} (hj : Jr f g F G s y z) : z = h y → h 0 = s := by
  induction hj with
  | base => exact fun e => e.symm
  | @f y z hj ih =>
    obtain ⟨hy, hz⟩ := jr_lt pf pg pF pG h0 hs hj
    intro e
    rw [(hc y hy).1] at e
    refine ih ?_
    exact pF.inj hz (hl y hy) e
  | @g y z hj ih =>
    obtain ⟨hy, hz⟩ := jr_lt pf pg pF pG h0 hs hj
    intro e
    rw [(hc y hy).2] at e
    refine ih ?_
    exact pG.inj hz (hl y hy) e
theorem map_uniq (pf : IsP n f f') (pg : IsP n g g') (h0 : 0 < n) (hcn : Conn n f g) {k : Nat → Nat} (hm : MapAt n m s f g F G h) (km : MapAt n m s f g F G k) : ∀ y, y < n → h y = k y := by
  have key : ∀ y, Rch f g 0 y → Jr f g F G s y (h y) := fun y hr => by
    induction hr with
    | refl => rw [hm.z]; exact .base
    | @f y hr ih => rw [(hm.c y (rch_lt pf pg h0 hr)).1]; exact .f ih
    | @g y hr ih => rw [(hm.c y (rch_lt pf pg h0 hr)).2]; exact .g ih
  intro y hy
  exact (jr_map pf pg h0 km (key y (hcn y hy))).2
theorem map_PL (pf : IsP n f f') (pg : IsP n g g') (h0 : 0 < n) (hcn : Conn n f g) {k : Nat → Nat} (hm : MapAt n m s f g F G h) (km : MapAt n m s f g F G k) : PL n h = PL n k := by
  unfold PL
  exact List.map_congr_left fun y hy => by rw [map_uniq pf pg h0 hcn hm km y (List.mem_range.1 hy)]
end
structure BM (n s : Nat) (f g F G : Nat → Nat) (D Q : List Int) : Prop where
  len : D.length = n
  ql : Q.length + D.count (-1) ≤ n
  bd : ∀ (w : Nat) (d : Int), D[w]? = some d → d = -1 ∨ ∃ z : Nat, d = z ∧ Jr f g F G s w z
  st : D[0]? = some (s : Int)
  q : ∀ v ∈ Q, ∃ w : Nat, v = w ∧ ∃ d : Nat, D[w]? = some (d : Int)
  cl : ∀ (w d : Nat), D[w]? = some (d : Int) → (w : Int) ∉ Q → D[f w]? = some (F d : Int) ∧ D[g w]? = some (G d : Int)
section
variable {n m s : Nat} {f f' g g' F F' G G' h : Nat → Nat} {D Q : List Int}
theorem cnt_set {D : List Int} {z : Nat} {a : Int} (hz : D[z]? = some (-1)) (ha : a ≠ -1) : (D.set z a).count (-1) + 1 = D.count (-1) := by
  obtain ⟨h1, h2⟩ := List.getElem?_eq_some_iff.1 hz
  have hm : (-1 : Int) ∈ D := List.mem_of_getElem? hz
  have hp := List.count_pos_iff.2 hm
  rw [List.count_set h1, h2]
  simp only [beq_self_eq_true, if_true]
  rw [if_neg (by simpa using ha)]
  omega
theorem bm_get {z q : Nat} {a : Int} {e : Nat} (hz : D[z]? = some (-1)) (hq : D[q]? = some (e : Int)) : (D.set z a)[q]? = some (e : Int) := by
  have hqz : z ≠ q := fun e2 => by subst e2; rw [hz] at hq; have := Option.some.inj hq; omega
  rw [List.getElem?_set_ne hqz]; exact hq
theorem BM.put (h : BM n s f g F G D Q) {z e : Nat} (hz : D[z]? = some (-1)) (hj : Jr f g F G s z e) : BM n s f g F G (D.set z (e : Int)) (Q ++ [(z : Int)]) := by
  have hzl := (List.getElem?_eq_some_iff.1 hz).1
  have hc := cnt_set hz (a := (e : Int)) (by omega)
  have hset : ∀ (q : Nat) (x : Int), (D.set z (e : Int))[q]? = some x → (q = z ∧ x = e) ∨ (q ≠ z ∧ D[q]? = some x) := fun q x hq => by
    by_cases hqz : q = z
    · subst hqz
      rw [List.getElem?_set_self hzl] at hq
      exact .inl ⟨rfl, (Option.some.inj hq).symm⟩
    · rw [List.getElem?_set_ne (fun e => hqz e.symm)] at hq
      exact .inr ⟨hqz, hq⟩
  refine ⟨by rw [List.length_set]; exact h.len, by have := h.ql; simp only [List.length_append, List.length_cons, List.length_nil]; omega, fun q x hq => ?_, bm_get hz h.st, fun v hv => ?_, fun q x hq hnq => ?_⟩
  · rcases hset q x hq with ⟨rfl, rfl⟩ | ⟨-, hq⟩
    · exact .inr ⟨e, rfl, hj⟩
    · exact h.bd q x hq
  · rcases List.mem_append.1 hv with hv | hv
    · obtain ⟨w, rfl, d, hd⟩ := h.q v hv
      exact ⟨w, rfl, d, bm_get hz hd⟩
    · rw [List.mem_singleton.1 hv]
      exact ⟨z, rfl, e, List.getElem?_set_self hzl⟩
  · rcases hset q _ hq with ⟨rfl, -⟩ | ⟨-, hq⟩
    · exact absurd (by simp) hnq
    · obtain ⟨a1, a2⟩ := h.cl q x hq fun hm => hnq (by simp [hm])
      exact ⟨bm_get hz a1, bm_get hz a2⟩
theorem BM.pop {w d : Nat} (h : BM n s f g F G D ((w : Int) :: Q)) (hd : D[w]? = some (d : Int)) (h1 : D[f w]? = some (F d : Int)) (h2 : D[g w]? = some (G d : Int)) : BM n s f g F G D Q := by
  refine ⟨h.len, by have := h.ql; simp only [List.length_cons] at this; omega, h.bd, h.st, fun v hv => h.q v (List.mem_cons_of_mem _ hv), fun q x hq hnq => ?_⟩
  by_cases e : q = w
  · subst e
    rw [hd] at hq
    have : x = d := by have := Option.some.inj hq; omega
    subst this
    exact ⟨h1, h2⟩
  · exact h.cl q x hq fun hm => by
      rcases List.mem_cons.1 hm with hm | hm
      · omega
      · exact hnq hm
theorem BM.start (h0 : 0 < n) : BM n s f g F G ((List.replicate n (-1 : Int)).set 0 (s : Int)) [0] := by
  obtain ⟨k, rfl⟩ : ∃ k, n = k + 1 := ⟨n - 1, by omega⟩
  rw [List.replicate_succ, List.set_cons_zero]
  refine ⟨by simp, ?_, fun w d hw => ?_, rfl, fun v hv => ?_, fun w d hw hn => ?_⟩
  · rw [List.count_cons_of_ne (by omega), List.count_replicate_self]
    simp; omega
  · cases w with
    | zero =>
      have := Option.some.inj hw
      exact .inr ⟨s, this.symm, .base⟩
    | succ w =>
      rw [List.getElem?_cons_succ, List.getElem?_replicate] at hw
      split at hw
      · exact .inl (Option.some.inj hw).symm
      · cases hw
  · rw [List.mem_singleton.1 hv]
    exact ⟨0, rfl, s, rfl⟩
  · cases w with
    | zero => exact absurd (by simp) hn
    | succ w =>
      rw [List.getElem?_cons_succ, List.getElem?_replicate] at hw
      split at hw
      · have := Option.some.inj hw; omega
      · cases hw
theorem BM.fin (pf : IsP n f f') (pg : IsP n g g') (pF : IsP m F F') (pG : IsP m G G') (h0 : 0 < n) (hs : s < m) (hcn : Conn n f g) (h : BM n s f g F G D []) : ∃ k, MapAt n m s f g F G k ∧ D = PL n k := by
  have key : ∀ y, Rch f g 0 y → ∃ d : Nat, D[y]? = some (d : Int) := fun y hr => by
    induction hr with
    | refl => exact ⟨s, h.st⟩
    | @f y _ ih => obtain ⟨d, hd⟩ := ih; exact ⟨_, (h.cl y d hd (by simp)).1⟩
    | @g y _ ih => obtain ⟨d, hd⟩ := ih; exact ⟨_, (h.cl y d hd (by simp)).2⟩
  have hk : ∀ y, y < n → D[y]? = some (((D.getD y 0).toNat : Nat) : Int) := fun y hy => by
    obtain ⟨d, hd⟩ := key y (hcn y hy)
    rw [List.getD_eq_getElem?_getD, hd]
    simp
  refine ⟨fun y => (D.getD y 0).toNat, ⟨?_, fun y hy => ?_, fun y hy => ?_⟩, ?_⟩
  · rw [List.getD_eq_getElem?_getD, h.st]; simp
  · rcases h.bd y _ (hk y hy) with hb | ⟨z, hz, hj⟩
    · omega
    · have := (jr_lt pf pg pF pG h0 hs hj).2
      omega
  · obtain ⟨a1, a2⟩ := h.cl y _ (hk y hy) (by simp)
    rw [hk _ (pf.lt y hy)] at a1
    rw [hk _ (pg.lt y hy)] at a2
    have := Option.some.inj a1
    have := Option.some.inj a2
    exact ⟨by omega, by omega⟩
  · apply List.ext_getElem?
    intro y
    by_cases hy : y < n
    · rw [hk y hy, PL_get hy]
    · rw [List.getElem?_eq_none (by rw [h.len]; omega), List.getElem?_eq_none (by rw [PL_len]; omega)]
theorem BM.bad (pf : IsP n f f') (pg : IsP n g g') (h0 : 0 < n) (h : BM n s f g F G D Q) {w d z e : Nat} {c : Bool} (hd : D[w]? = some (d : Int)) (hz : z = if c then f w else g w) (he : D[z]? = some (e : Int)) (hne : e ≠ if c then F d else G d) (k : Nat → Nat) : ¬ MapAt n m s f g F G k := by
  intro hm
  have jw : d = k w ∧ w < n := by
    rcases h.bd w _ hd with hb | ⟨z, hz, hj⟩
    · omega
    · have := jr_map pf pg h0 hm hj
      exact ⟨by omega, this.1⟩
  have jz : e = k z := by
    rcases h.bd z _ he with hb | ⟨z, hz, hj⟩
    · omega
    · have := jr_map pf pg h0 hm hj
      omega
  obtain ⟨c1, c2⟩ := hm.c w jw.2
  cases c with
  | true =>
    have hz : z = f w := hz
    have hne : e ≠ F d := hne
    rw [hz] at jz; exact hne (by rw [jz, c1, jw.1])
  | false =>
    have hz : z = g w := hz
    have hne : e ≠ G d := hne
    rw [hz] at jz; exact hne (by rw [jz, c2, jw.1])
end
end Go.PI
/- THE ORDER in which squares are reached, of the reference. -/
open Go.Proofs
namespace Go.PI
open IM
set_option maxRecDepth 10000
set_option maxHeartbeats 4000000
variable (S : FuncId → Option (List AV → Heap → Option (AV × Heap)))
end Go.PI
/- RENUMBERED squares; which of two comes first: of the reference. -/
open Go.Proofs
namespace Go.PI
open IM
set_option maxRecDepth 10000
set_option maxHeartbeats 4000000
variable (S : FuncId → Option (List AV → Heap → Option (AV × Heap)))
end Go.PI
/- WHICH OF TWO LISTS comes first. -/
open Go.Proofs
namespace Go.PI
open IM
set_option maxRecDepth 10000
set_option maxHeartbeats 4000000
variable (S : FuncId → Option (List AV → Heap → Option (AV × Heap)))
theorem ones_pn {xs : List Int} : pones (xs.map pn) = true := by
  induction xs with
  | nil => rfl
  | cons x xs ih =>
    show ((pn x).one && pones (xs.map pn)) = true
    rw [ih]; rfl
end Go.PI
/- THE LABEL of the reference. -/
open Go.Proofs
namespace Go.PI
open IM
set_option maxRecDepth 10000
set_option maxHeartbeats 4000000
variable (S : FuncId → Option (List AV → Heap → Option (AV × Heap)))
end Go.PI
/- THE LABEL of the reference: the best of all numberings. -/
open Go.Proofs
namespace Go.PI
open IM
set_option maxRecDepth 10000
set_option maxHeartbeats 4000000
variable (S : FuncId → Option (List AV → Heap → Option (AV × Heap)))
end Go.PI
/- NUMBERINGS of the program: one square more; which of two lists comes first. -/
open Go.Proofs
namespace Go.PI
open IM
set_option maxRecDepth 10000
set_option maxHeartbeats 4000000
variable (S : FuncId → Option (List AV → Heap → Option (AV × Heap)))
theorem Gr.smP {α : Type} {f : α → PV} {e : TypeId} {v : PV} {σ : List StB} {Xs : List α} (h : Gr f e v σ Xs) : Go.PI.smP v = true := by
  rcases h with ⟨rfl, h⟩ | ⟨j, ty, rfl, h⟩ | ⟨j, rfl, h⟩ <;> rfl
end Go.PI
/- ONE NUMBER, repeated. -/
open Go.Proofs
namespace Go.PI
open IM
set_option maxRecDepth 20000
set_option maxHeartbeats 4000000
variable (S : FuncId → Option (List AV → Heap → Option (AV × Heap)))
theorem fn154 : ctx.fn 154 = some c154 := by kernel_rfl
theorem fn140 : ctx.fn 140 = some c140 := by kernel_rfl
abbrev pu (n : Int) : PV := .int .u64 n
theorem mul64_ct (hS : OldO S) {n : Nat} (hn : n ≤ 20) : Ct (ctx.plus S) 154 [pu 1, pu n] 0 fun r => r = .tup [pu 0, pu n] := by
  refine ct_of (hS 154 (by decide)) fn154 ?_
  refine ⟨rfl, _, rfl, ?_⟩
  refine ⟨_, rfl, ?_⟩
  refine ⟨rfl, _, rfl, ?_⟩
  refine ⟨_, rfl, ?_⟩
  refine ⟨rfl, _, rfl, ?_⟩
  refine ⟨rfl, _, rfl, ?_⟩
  refine ⟨_, rfl, ?_⟩
  refine ⟨rfl, _, rfl, ?_⟩
  refine ⟨rfl, _, rfl, ?_⟩
  refine ⟨_, rfl, ?_⟩
  refine ⟨rfl, _, rfl, ?_⟩
  refine ⟨rfl, _, rfl, ?_⟩
  refine ⟨rfl, _, rfl, ?_⟩
  refine ⟨rfl, _, rfl, ?_⟩
  refine ⟨_, rfl, ?_⟩
  refine ⟨rfl, _, rfl, ?_⟩
  refine ⟨rfl, _, rfl, ?_⟩
  refine endsq rfl ?_
  rcases (show n = 0 ∨ n = 1 ∨ n = 2 ∨ n = 3 ∨ n = 4 ∨ n = 5 ∨ n = 6 ∨ n = 7 ∨ n = 8 ∨ n = 9 ∨ n = 10 ∨ n = 11 ∨ n = 12 ∨ n = 13 ∨ n = 14 ∨ n = 15 ∨ n = 16 ∨ n = 17 ∨ n = 18 ∨ n = 19 ∨ n = 20 by omega) with rfl | rfl | rfl | rfl | rfl | rfl | rfl | rfl | rfl | rfl | rfl | rfl | rfl | rfl | rfl | rfl | rfl | rfl | rfl | rfl | rfl <;> rfl
theorem mul_ct (hS : OldO S) {n : Nat} (hn : n ≤ 20) : Ct (ctx.plus S) 140 [.int .u64 (1 : Nat), .int .u64 n] 0 fun r => r = .tup [.int .u64 (0 : Nat), .int .u64 n] := by
  refine ct_of (hS 140 (by decide)) fn140 ?_
  refine callq rfl (mul64_ct S hS hn) (by omega) ?_
  rintro _ rfl
  exact endsq rfl rfl
def rep2 (n m : Nat) (a : Int) : List Int := List.replicate m a ++ List.replicate (n - m) 0
theorem rep2_len {n m : Nat} {a : Int} (h : m ≤ n) : (rep2 n m a).length = n := by simp [rep2]; omega
theorem rep2_put {n m k : Nat} {a : Int} (h : m + k ≤ n) : pspl ((rep2 n m a).map pn) m ((List.replicate k a).map pn) = (rep2 n (m + k) a).map pn := by
  unfold pspl rep2
  rw [← List.map_take, ← List.map_drop, List.length_map, List.length_replicate, ← List.map_append, ← List.map_append]
  congr 1
  rw [List.take_left' (by simp), List.drop_append, List.length_replicate, List.drop_of_length_le (by simp), List.nil_append, List.drop_replicate, List.replicate_append_replicate, show n - m - (m + k - m) = n - (m + k) by omega]
theorem fn123 : ctx.fn 123 = some c123 := by kernel_rfl
theorem repeatI_cf (hS : OldO S) {a : Int} {n : Nat} (h0 : 0 < n) (hn : n ≤ 20) : Cfr (ctx.plus S) 123 [pIs [a], pn n] 2 fun ty m cp e cs => ty = 3 ∧ m = n ∧ cp = n ∧ e = 1 ∧ cs = (List.replicate n a).map pn := by
  refine cf_of (hS 123 (by decide)) fn123 ?_
  refine ⟨fun h => absurd h (by omega), fun _ => ?_⟩
  have hw : ∀ m : Nat, m ≤ 2000 → IntKind.u64.wrap (m : Int) = m := fun m hm => by
    show (m : Int) % 18446744073709551616 = m
    omega
  have hM2 : Ct (ctx.plus S) 140 [.int .u64 (IntKind.u64.wrap ([a].length : Nat)), .int .u64 (IntKind.u64.wrap (n : Nat))] 0 fun r => r = .tup [.int .u64 (0 : Nat), .int .u64 n] := by
    rw [hw n (by omega), hw [a].length (by show 1 ≤ 2000; omega)]
    exact mul_ct S hS hn
  refine callq rfl hM2 (by omega) ?_
  rintro _ rfl
  have hwi : IntKind.i64.wrap (n : Int) = n := wrap64 (by unfold In64; omega)
  refine ⟨rfl, .bool false, rfl, ?_⟩
  refine ⟨rfl, .bool false, by show some (AV.bool (decide ((n : Int) > 9223372036854775807))) = _; rw [decide_eq_false (by omega)], ?_⟩
  have mk : (1 ≤ (n : Int)) := by omega
  refine ⟨by omega, ⟨by rw [hwi]; omega, by rw [hwi]; omega, by rw [hwi]; omega⟩, _, int_zero, ?_⟩
  rw [hwi]
  have hrep : (List.replicate (n : Int).toNat (0 : Int)).length = n := by simp
  have e0 : List.replicate (n : Int).toNat (0 : Int) = rep2 n 0 a := by simp [rep2]
  have hmin : min 1 (n : Int).toNat = 1 := by omega
  refine ⟨rfl, _, _, _, rfl, ⟨by rw [List.length_map, hrep]; show 0 + min 1 (n : Int).toNat * 1 ≤ n; omega, by show min 1 (n : Int).toNat * 1 ≤ 1; omega, ?_⟩, (show pspl ((List.replicate (n : Int).toNat (0 : Int)).map pn) 0 (((pn a) :: []).take (min 1 (n : Int).toNat * 1)) = (rep2 n 1 a).map pn by rw [e0, hmin]; exact rep2_put (m := 0) (k := 1) (by omega)), ?_⟩
  · show pones (((pn a) :: []).take (min 1 (n : Int).toNat * 1)) = true
    rw [hmin]; rfl
  refine ⟨fun q st => ∃ (m : Nat) (T : List PV), st = ⟨T, [.live 3 ((rep2 n m a).map pn)], 1⟩ ∧ Gt T 48 [(7, .own 0 0 n n 1), (8, pn m)] ∧ q = n - m ∧ 1 ≤ m ∧ m ≤ n, ⟨_, ci ⟨1, _, rfl, ⟨rfl, by show PV.own 0 0 (n : Int).toNat (n : Int).toNat 1 = .own 0 0 n n 1; rw [Int.toNat_natCast], by show pn (min 1 (n : Int).toNat : Nat) = pn (1 : Nat); rw [hmin], trivial⟩, rfl, Nat.le_refl _, by omega⟩⟩, ?_⟩
  rintro _ st ⟨m, T, rfl, hT, rfl, hm, hmn⟩
  obtain ⟨J, rfl⟩ := gt_open hT
  clear hT
  refine ⟨fun hlt => ?_, fun hge => ?_⟩
  · refine ⟨by kernel_rfl, ?_⟩
    refine ⟨Nat.le_refl _, ⟨by omega, by omega⟩, m, by rw [if_neg (show n ≠ (m : Int).toNat by rw [Int.toNat_natCast]; omega)]; show 0 + m * 1 = m; omega, ?_⟩
    refine ⟨Nat.le_refl _, ⟨by omega, by omega⟩, 0, by rw [if_neg (by omega)]; rfl, ?_⟩
    have hrl := rep2_len (a := a) hmn
    obtain ⟨k, hk⟩ : ∃ k, k = min m (n - m) := ⟨_, rfl⟩
    have hml : ((rep2 n m a).map pn).length = n := by rw [List.length_map, hrl]
    refine ⟨_, _, (List.replicate m a).map pn, rfl, by rw [hml]; show 0 + m * 1 ≤ n; omega, ?_, ?_⟩
    · show (((rep2 n m a).map pn).drop 0).take (m * 1) = _
      rw [List.drop_zero, Nat.mul_one, ← List.map_take]
      unfold rep2
      rw [List.take_left' (by simp)]
    have htk : ((List.replicate m a).map pn).take (min m (n - m) * 1) = (List.replicate k a).map pn := by
      rw [Nat.mul_one, ← hk, ← List.map_take, List.take_replicate, Nat.min_eq_left (by omega)]
    refine ⟨_, _, (rep2 n (m + k) a).map pn, rfl, ⟨by rw [hml]; show m + min m (n - m) * 1 ≤ n; omega, by show min m (n - m) * 1 ≤ _; rw [List.length_map, List.length_replicate]; omega, by show pones (((List.replicate m a).map pn).take (min m (n - m) * 1)) = true; rw [htk]; exact ones_pn⟩, by show pspl _ m (((List.replicate m a).map pn).take (min m (n - m) * 1)) = _; rw [htk]; exact rep2_put (by omega), ?_⟩
    refine ⟨⟨by omega, by omega⟩, ?_⟩
    refine ⟨n - (m + k), by omega, ci ⟨m + k, _, rfl, ⟨rfl, rfl, by show pn ((m : Int) + (min m (n - m) : Nat)) = pn ((m + k : Nat) : Int); rw [← hk]; congr 1, trivial⟩, rfl, by omega, by omega⟩⟩
  · have hmn2 : m = n := by omega
    rw [hmn2]
    refine ⟨⟨_, _, _, _, _, _, rfl, rfl, rfl, rfl, rfl, ⟨rfl, by simp [rep2]⟩⟩⟩
end Go.PI
