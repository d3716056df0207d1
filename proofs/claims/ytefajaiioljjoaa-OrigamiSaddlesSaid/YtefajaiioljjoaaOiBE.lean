/- Own work of the verifier: OgX OgY. -/
import Derived.Test.YtefajaiioljjoaaOiBD
import Derived.Test.YtefajaiioljjoaaOiBC
set_option linter.all false
set_option exponentiation.threshold 3000
set_option linter.deprecated false
/- COMPONENTS of the reference, all of them; whether an origami is one that is connected. -/
open Go.Proofs
namespace Go.PI
open IM
set_option maxRecDepth 10000
set_option maxHeartbeats 4000000
variable (S : FuncId → Option (List AV → Heap → Option (AV × Heap)))
def Low (f g : Nat → Nat) (s : Nat) : Prop := ∀ y, y < s → ¬ Rch f g s y
theorem mem_compTo {f g : Nat → Nat} {s n y : Nat} : y ∈ compTo f g s n ↔ y < n ∧ Rch f g s y := by
  unfold compTo
  rw [List.mem_filter, List.mem_range]
  simp
theorem comp_head {f g : Nat → Nat} {s n : Nat} (hs : s < n) : ∃ h, (compTo f g s n)[0]? = some h ∧ Rch f g s h ∧ h ≤ s ∧ ∀ y, y < n → Rch f g s y → h ≤ y := by
  have hm : s ∈ compTo f g s n := mem_compTo.2 ⟨hs, .refl⟩
  have hp : (compTo f g s n).Pairwise (· < ·) := List.Pairwise.filter _ List.pairwise_lt_range
  have hmem := fun y => mem_compTo (f := f) (g := g) (s := s) (n := n) (y := y)
  cases hc : compTo f g s n with
  | nil => rw [hc] at hm; simp at hm
  | cons h t =>
    rw [hc] at hp hm hmem
    have hall : ∀ y, y < n → Rch f g s y → h ≤ y := fun y hy hr => by
      rcases List.mem_cons.1 ((hmem y).2 ⟨hy, hr⟩) with e | e
      · omega
      · have := List.rel_of_pairwise_cons hp e; omega
    exact ⟨h, rfl, ((hmem h).1 (by simp)).2, hall s hs .refl, hall⟩
theorem head_low {f g : Nat → Nat} {s n h : Nat} (hs : s < n) (hr : Rch f g s h) (hle : h ≤ s) (ha : ∀ y, y < n → Rch f g s y → h ≤ y) : h = s ↔ Low f g s := by
  constructor
  · rintro rfl y hy hc
    have := ha y (by omega) hc
    omega
  · intro hl
    refine Classical.byContradiction fun hne => hl h (by omega) hr
open Classical in
noncomputable def lows (f g : Nat → Nat) (k : Nat) : List Nat := (List.range k).filter fun y => decide (Low f g y)
theorem mem_lows {f g : Nat → Nat} {k y : Nat} : y ∈ lows f g k ↔ y < k ∧ Low f g y := by
  unfold lows
  rw [List.mem_filter, List.mem_range]
  simp
theorem lows_yes {f g : Nat → Nat} {k : Nat} (h : Low f g k) : lows f g (k + 1) = lows f g k ++ [k] := by
  unfold lows
  rw [List.range_succ, List.filter_append, List.filter_cons_of_pos (by simpa using h)]
  rfl
theorem lows_no {f g : Nat → Nat} {k : Nat} (h : ¬ Low f g k) : lows f g (k + 1) = lows f g k := by
  unfold lows
  rw [List.range_succ, List.filter_append, List.filter_cons_of_neg (by simpa using h)]
  simp
theorem lows_len {f g : Nat → Nat} {k : Nat} : (lows f g k).length ≤ k := by
  have := List.length_filter_le (fun y => @decide (Low f g y) (Classical.propDecidable _)) (List.range k)
  rw [List.length_range] at this
  exact this
theorem lows_nodup {f g : Nat → Nat} {k : Nat} : (lows f g k).Nodup := by
  unfold lows List.Nodup
  exact (List.Pairwise.filter _ List.pairwise_lt_range).imp fun h e => by omega
noncomputable def compsTo (f g : Nat → Nat) (n k : Nat) : List (List Int) := (lows f g k).map fun s => NL (compTo f g s n)
theorem compsTo_len {f g : Nat → Nat} {n k : Nat} : (compsTo f g n k).length = (lows f g k).length := by unfold compsTo; rw [List.length_map]
theorem compsTo_yes {f g : Nat → Nat} {n k : Nat} (h : Low f g k) : compsTo f g n (k + 1) = compsTo f g n k ++ [NL (compTo f g k n)] := by
  unfold compsTo
  rw [lows_yes h, List.map_append]
  rfl
theorem compsTo_no {f g : Nat → Nat} {n k : Nat} (h : ¬ Low f g k) : compsTo f g n (k + 1) = compsTo f g n k := by
  unfold compsTo
  rw [lows_no h]
theorem low_zero {f g : Nat → Nat} : Low f g 0 := fun y hy => by omega
theorem conn_comps {n : Nat} {f f' g g' : Nat → Nat} (pf : IsP n f f') (pg : IsP n g g') (h0 : 0 < n) : (compsTo f g n n).length = 1 ↔ Conn n f g := by
  rw [compsTo_len]
  have hz : 0 ∈ lows f g n := mem_lows.2 ⟨h0, low_zero⟩
  constructor
  · intro e y hy
    refine Classical.byContradiction fun hc => ?_
    obtain ⟨h, -, hr, hle, ha⟩ := comp_head (f := f) (g := g) hy
    have hhn : h < n := by omega
    have hlow : Low f g h := fun z hz hzr => by
      have := ha z (by omega) (hr.trans hzr)
      omega
    have hne : h ≠ 0 := fun e0 => by
      subst e0
      exact hc (hr.symm pf pg hy)
    have := len_le_of (l := [0, h]) (m := lows f g n) (by simp; omega) fun z hz' => by
      simp at hz'
      rcases hz' with rfl | rfl
      · exact hz
      · exact mem_lows.2 ⟨hhn, hlow⟩
    simp at this
    omega
  · intro hc
    have h1 := len_le_of (l := lows f g n) (m := [0]) lows_nodup fun z hz' => by
      obtain ⟨a, b⟩ := mem_lows.1 hz'
      rw [List.mem_singleton]
      refine Classical.byContradiction fun hne => b 0 (by omega) ((hc z a).symm pf pg h0)
    have h2 := len_le_of (l := [0]) (m := lows f g n) (by simp) fun z hz' => by
      rw [List.mem_singleton.1 hz']; exact hz
    simp at h1 h2
    omega
theorem fn20 : ctx.fn 20 = some c20 := by kernel_rfl
theorem rcomponents_ct (hS : OldO S) {r u : List Int} {n : Nat} {f f' g g' : Nat → Nat} (ho : IsO r u n f f' g g') :
    Ct (ctx.plus S) 20 [pO r u] 310000 fun w => w = pM (compsTo f g n n) := by
  have hn := ho.le
  have hrl := ho.l1.1
  refine ct_of (hS 20 (by decide)) fn20 ?_
  refine ⟨by omega, ?_⟩
  refine ⟨fun m st => ∃ (k b : Nat) (v : PV) (σ : List StB) (T : List PV), st = ⟨T, σ, b⟩ ∧ Gt T 25 [(1, .optr 0 0), (3, v), (4, pn k)] ∧ m = n - k ∧ k ≤ n ∧ b ≤ 4 + 5010 * k ∧ Hid (σ[0]? = some (.live 24 [pIs r, pIs u]) ∧ blkOf v ≠ some 0 ∧ Gr pIs 22 v σ (compsTo f g n k)), ⟨_, ci ⟨0, _, .nils, _, _, rfl, ⟨rfl, rfl, rfl, rfl, trivial⟩, rfl, Nat.zero_le _, by omega, ⟨rfl, (fun h => by cases h), .nil⟩⟩⟩, ?_⟩
  rintro _ st ⟨k, b, v, σ, T, rfl, hT, rfl, hk, hb, hh⟩
  obtain ⟨J, rfl⟩ := gt_open hT
  clear hT
  obtain ⟨d1, d3, d5⟩ := hh.h
  have l0 := (List.getElem?_eq_some_iff.1 d1).1
  refine ⟨_, load_c (contOf_live d1) rfl rfl, ?_⟩
  refine callq rfl (size_ct S hS (r := r) (u := u)) (by omega) ?_
  rintro _ rfl
  refine ⟨fun hlt => ?_, fun hge => ?_⟩
  · have hkn : k < n := by omega
    obtain ⟨h, hh0, hr, hle, ha⟩ := comp_head (f := f) (g := g) hkn
    have hlow := head_low hkn hr hle ha
    have hcl : (compTo f g k n).length ≤ n := compTo_len
    have hnl : (NL (compTo f g k n)).length = (compTo f g k n).length := NL_len
    have hpos := (List.getElem?_eq_some_iff.1 hh0).1
    refine ⟨_, load_c (contOf_live d1) rfl rfl, ?_⟩
    refine callq rfl (component_ct S hS ho hkn) (by omega) ?_
    rintro _ rfl
    refine ⟨⟨⟨by omega, by omega⟩, len_map_le (by omega)⟩, ?_⟩
    refine ⟨_, ld (at_map (NL_get hh0)) (by show _ * 1 = 0; omega), ?_⟩
    refine ⟨fun heq => ?_, fun hne => ?_⟩
    · have hL : Low f g k := hlow.1 (by omega)
      refine ⟨by omega, part1 fzL ⟨[pIs (NL (compTo f g k n))], rfl, ?_⟩⟩
      have hcn : (compsTo f g n k).length ≤ k := by rw [compsTo_len]; exact lows_len
      refine appG (f := pIs) (e := 22) (y := NL (compTo f g k n)) d5.push push_cont rfl rfl rfl rfl (by kernel_rfl) rfl rfl (by omega) (by omega) fun v' σ' hv' hkp hbv => ?_
      have hne : ∀ q, q < σ.length → blkOf v' ≠ some q := fun q hq e => by
        rw [hbv] at e; have := Option.some.inj e; rw [List.length_append, List.length_singleton] at this; omega
      refine ⟨⟨by omega, by omega⟩, ?_⟩
      exact ⟨_, by omega, ci ⟨k + 1, _, v', σ', _, rfl, ⟨rfl, rfl, rfl, rfl, trivial⟩, rfl, by omega, by omega, ⟨hkp 0 _ d3 (push_old d1), hne 0 l0, by rw [compsTo_yes hL]; exact hv'⟩⟩⟩
    · have hL : ¬ Low f g k := fun hc => hne (by have := hlow.2 hc; omega)
      refine ⟨⟨by omega, by omega⟩, ?_⟩
      exact ⟨_, by omega, ci ⟨k + 1, _, v, σ, _, rfl, ⟨rfl, rfl, rfl, rfl, trivial⟩, rfl, by omega, by omega, ⟨d1, d3, by rw [compsTo_no hL]; exact d5⟩⟩⟩
  · have hkn : k = n := by omega
    subst hkn
    obtain ⟨σ', hf⟩ := d5.fz
    exact endf hf rfl
theorem fn74 : ctx.fn 74 = some c74 := by kernel_rfl
theorem rconnected_ct (hS : OldO S) {r u : List Int} {n : Nat} {f f' g g' : Nat → Nat} (ho : IsO r u n f f' g g') :
    Ct (ctx.plus S) 74 [pO r u] 310001 fun w => (Conn n f g ∧ w = .bool true) ∨ (¬ Conn n f g ∧ w = .bool false) := by
  have h1 := conn_comps ho.pr ho.pu ho.pos
  refine ct_of (hS 74 (by decide)) fn74 ?_
  refine ⟨by omega, ?_⟩
  refine ⟨_, rfl, ?_⟩
  refine callq rfl (rcomponents_ct S hS ho) (by omega) ?_
  rintro _ rfl
  refine ⟨fun h => ?_, fun h => ?_⟩
  · exact endq rfl (.inl ⟨h1.1 (by omega), rfl⟩)
  · exact endq rfl (.inr ⟨fun hc => h (by have := h1.2 hc; omega), rfl⟩)
theorem fn28 : ctx.fn 28 = some c28 := by kernel_rfl
theorem checkOne_bad (hS : OldO S) {r u : List Int} (l1 : r.length ≤ 1000000) (l2 : u.length ≤ 1000000) (h : chkO r u ≠ 0) : Ct (ctx.plus S) 28 [pO r u] 2 fun v => v = pn (chkO r u) := by
  refine ct_of (hS 28 (by decide)) fn28 ?_
  refine ⟨by omega, ?_⟩
  refine ⟨_, rfl, ?_⟩
  refine callq rfl (rcheck_ct S hS l1 l2) (by omega) ?_
  rintro _ rfl
  exact ⟨fun _ => endq rfl rfl, fun h0 => absurd h0 h⟩
theorem checkOne_ok (hS : OldO S) {r u : List Int} {n : Nat} {f f' g g' : Nat → Nat} (ho : IsO r u n f f' g g') : Ct (ctx.plus S) 28 [pO r u] 310010 fun v => v = pn (cc n f g) := by
  have hl := ho.l1
  have hn := ho.le
  have h0 := ho.chk
  refine ct_of (hS 28 (by decide)) fn28 ?_
  refine ⟨by omega, ?_⟩
  refine ⟨_, rfl, ?_⟩
  refine callq rfl (rcheck_ct S hS (by omega) (by omega)) (by omega) ?_
  rintro _ rfl
  rw [h0]
  refine ⟨fun h => absurd rfl h, fun _ => ?_⟩
  refine ⟨_, rfl, ?_⟩
  refine callq rfl (rconnected_ct S hS ho) (by omega) ?_
  rintro _ (⟨hc, rfl⟩ | ⟨hc, rfl⟩)
  · exact endq rfl (by unfold cc; rw [if_pos hc])
  · exact endq rfl (by unfold cc; rw [if_neg hc])
end Go.PI
/- THE ORDER in which squares are reached, of the reference. -/
open Go.Proofs
namespace Go.PI
open IM
set_option maxRecDepth 10000
set_option maxHeartbeats 4000000
variable (S : FuncId → Option (List AV → Heap → Option (AV × Heap)))
theorem Gr.cast {α : Type} {f : α → PV} {e : TypeId} {v : PV} {σ : List StB} {Xs Ys : List α} (h : Gr f e v σ Xs) (k : Ys = Xs) : Gr f e v σ Ys := k ▸ h
theorem NL_mem {l : List Nat} {y : Nat} : (y : Int) ∈ NL l ↔ y ∈ l := by
  unfold NL
  rw [List.mem_map]
  constructor
  · rintro ⟨z, hz, e⟩
    have : z = y := by omega
    rwa [this] at hz
  · exact fun h => ⟨y, h, rfl⟩
theorem idx_in {l : List Nat} {y : Nat} (h : y ∈ l) : 0 ≤ idx (NL l) y := by unfold idx; rw [if_pos (NL_mem.2 h)]; omega
theorem idx_out {l : List Nat} {y : Nat} (h : y ∉ l) : idx (NL l) y = -1 := by unfold idx; rw [if_neg fun e => h (NL_mem.1 e)]
theorem at_cm (hS : OldO S) {σ : List StB} {v : PV} {xs : List Nat} {y : Nat} (hg : Gr pnn 3 v σ xs) (hne : xs ≠ []) (hl : xs.length ≤ 1000) : Cm (ctx.plus S) 69 [v, pn y] σ 0 fun w σ' => w = pn (idx (NL xs) y) ∧ σ' = σ := by
  refine cm_of Opn.no (hS 69 (by decide)) fn69 fun c k0 hc => ?_
  obtain ⟨jv, ty, hcv, hv⟩ := hg.shape hne
  have hnl : (NL xs).length = xs.length := NL_len
  rcases hv with rfl | rfl
  · refine ⟨fun m s => ∃ (i : Nat) (T : List PV), s = ⟨T, σ, k0⟩ ∧ Gt T 19 [(0, .own jv 0 xs.length xs.length 1), (1, pn y), (5, pn i)] ∧ m = xs.length - i ∧ i ≤ xs.length ∧ Hid (NotB (NL xs) y i), ⟨_, ci ⟨0, _, rfl, ⟨rfl, rfl, rfl, rfl, trivial⟩, rfl, Nat.zero_le _, ⟨fun j hj => by omega⟩⟩⟩, ?_⟩
    rintro _ s ⟨i, T, rfl, hT, rfl, hi, hn⟩
    obtain ⟨J, rfl⟩ := gt_open hT
    clear hT
    refine ⟨fun hlt => ?_, fun hge => ?_⟩
    · have hil : i < xs.length := by omega
      obtain ⟨e, he⟩ : ∃ e, xs[i]? = some e := ⟨_, List.getElem?_eq_getElem hil⟩
      have he2 := NL_get he
      refine ⟨⟨by omega, by omega⟩, ?_⟩
      refine ⟨_, load_k rfl rfl hcv (at_map he) (by show 0 + _ * 1 = i; omega), ?_⟩
      refine ⟨fun heq => ?_, fun hne => ?_⟩
      · exact endm [] (by dsimp only; omega) ⟨by rw [idx_at hn.h (by rw [he2]; congr 1)]; rfl, rfl⟩
      · refine ⟨⟨by omega, by omega⟩, ?_⟩
        exact ⟨_, by omega, ci ⟨i + 1, _, rfl, ⟨rfl, rfl, rfl, rfl, trivial⟩, rfl, by omega, ⟨notB_next hn.h he2 hne⟩⟩⟩
    · exact endm [] (by dsimp only; omega) ⟨by unfold idx; rw [if_neg (notB_end hn.h (by omega))]; rfl, rfl⟩
  · refine ⟨fun m s => ∃ (i : Nat) (T : List PV), s = ⟨T, σ, k0⟩ ∧ Gt T 19 [(0, .ownu jv xs.length 1), (1, pn y), (5, pn i)] ∧ m = xs.length - i ∧ i ≤ xs.length ∧ Hid (NotB (NL xs) y i), ⟨_, ci ⟨0, _, rfl, ⟨rfl, rfl, rfl, rfl, trivial⟩, rfl, Nat.zero_le _, ⟨fun j hj => by omega⟩⟩⟩, ?_⟩
    rintro _ s ⟨i, T, rfl, hT, rfl, hi, hn⟩
    obtain ⟨J, rfl⟩ := gt_open hT
    clear hT
    refine ⟨fun hlt => ?_, fun hge => ?_⟩
    · have hil : i < xs.length := by omega
      obtain ⟨e, he⟩ : ∃ e, xs[i]? = some e := ⟨_, List.getElem?_eq_getElem hil⟩
      have he2 := NL_get he
      refine ⟨⟨by omega, by omega⟩, ?_⟩
      refine ⟨_, load_k rfl rfl hcv (at_map he) (by show 0 + _ * 1 = i; omega), ?_⟩
      refine ⟨fun heq => ?_, fun hne => ?_⟩
      · exact endm [] (by dsimp only; omega) ⟨by rw [idx_at hn.h (by rw [he2]; congr 1)]; rfl, rfl⟩
      · refine ⟨⟨by omega, by omega⟩, ?_⟩
        exact ⟨_, by omega, ci ⟨i + 1, _, rfl, ⟨rfl, rfl, rfl, rfl, trivial⟩, rfl, by omega, ⟨notB_next hn.h he2 hne⟩⟩⟩
    · exact endm [] (by dsimp only; omega) ⟨by unfold idx; rw [if_neg (notB_end hn.h (by omega))]; rfl, rfl⟩
theorem bfs_PL {n s : Nat} {f f' g g' : Nat → Nat} (pf : IsP n f f') (pg : IsP n g g') (h0 : 0 < n) (hs : s < n) (hc : Conn n f g) : NL (bfs f g s n) = PL n (es f g n s) := by
  refine PL_ext (by rw [NL_len]; exact (bfs_full pf pg h0 hs hc).1) fun k hk => NL_get (es_get pf pg h0 hs hc hk)
theorem fn75 : ctx.fn 75 = some c75 := by kernel_rfl
theorem from_ct (hS : OldO S) {r u : List Int} {n s : Nat} {f f' g g' : Nat → Nat} (ho : IsO r u n f f' g g') (hs : s < n) (hc : Conn n f g) :
    Ct (ctx.plus S) 75 [pO r u, pn s] 1000 fun w => w = pIs (PL n (ei f g n s)) := by
  have hn := ho.le
  have hlen := fun i => bfs_len (s := s) ho.pr ho.pu hs i
  have hl := ho.l1
  have gr : ∀ i, i < n → r[i]? = some (f i : Int) := fun i hi => by rw [ho.hr, PL_get hi]
  have gu : ∀ i, i < n → u[i]? = some (g i : Int) := fun i hi => by rw [ho.hu, PL_get hi]
  refine ct_of (hS 75 (by decide)) fn75 ?_
  refine ⟨by omega, ?_⟩
  refine ⟨by omega, part1 fzI ⟨[pnn s], rfl, ?_⟩⟩
  refine ⟨fun q st => ∃ (i b : Nat) (v : PV) (σ : List StB) (T : List PV), st = ⟨T, σ, b⟩ ∧ Gt T 51 [(2, .optr 0 0), (5, v), (6, pn i)] ∧ q = n - i ∧ i ≤ n ∧ b ≤ 10 + 8 * i ∧ Hid (σ[0]? = some (.live 24 [pIs r, pIs u]) ∧ blkOf v ≠ some 0 ∧ Gr pnn 3 v σ (bfs f g s i)), ⟨_, ci ⟨0, _, _, _, _, rfl, ⟨rfl, rfl, rfl, rfl, trivial⟩, rfl, Nat.zero_le _, by omega, ⟨rfl, (fun h => by cases h), .inr (.inl ⟨1, 3, rfl, rfl⟩)⟩⟩⟩, ?_⟩
  rintro _ st ⟨i, b, v, σ, T, rfl, hT, rfl, hi, hb, hh⟩
  obtain ⟨J, rfl⟩ := gt_open hT
  clear hT
  obtain ⟨d1, d3, d5⟩ := hh.h
  clear hh
  have l0 := (List.getElem?_eq_some_iff.1 d1).1
  have hL := hlen i
  have hL2 := hlen (i + 1)
  have hbne : bfs f g s i ≠ [] := fun e => by
    have := bfs_mem (f := f) (g := g) (s := s) (i := 0) (k := i) (y := s) (by simp [bfs])
    rw [Nat.zero_add, e] at this
    simp at this
  have hsh := d5.shape hbne
  obtain ⟨jv, ty, hcv, hv⟩ := hsh
  rcases hv with rfl | rfl
  all_goals
    refine ⟨fun hlt => ?_, fun hge => ?_⟩
    · have hil : i < (bfs f g s i).length := by omega
      obtain ⟨x, hx⟩ : ∃ x, (bfs f g s i)[i]? = some x := ⟨_, List.getElem?_eq_getElem hil⟩
      have hxn := bfs_lt ho.pr ho.pu hs i x (List.mem_of_getElem? hx)
      have c1 := ho.pr.lt x hxn
      have c2 := ho.pu.lt x hxn
      have hnx : bfs f g s (i + 1) = addL (addL (bfs f g s i) (f x)) (g x) := nxt_at hx
      have hxa : ∀ a, (addL (bfs f g s i) a)[i]? = some x := fun a => by
        obtain ⟨t, ht⟩ := addL_pre (xs := bfs f g s i) (x := a)
        rw [← ht, List.getElem?_append_left hil]; exact hx
      have hal : (addL (bfs f g s i) (f x)).length ≤ (bfs f g s i).length + 1 := addL_len
      refine ⟨by kernel_rfl, ?_⟩
      refine ⟨_, load_c (contOf_live d1) rfl rfl, rfl, ?_⟩
      refine ⟨⟨by omega, by omega⟩, ?_⟩
      refine ⟨_, load_k rfl rfl hcv (at_map hx) (by show 0 + _ * 1 = i; omega), rfl, ?_⟩
      refine ⟨⟨⟨by omega, by omega⟩, len_map_le (by omega)⟩, ?_⟩
      refine ⟨_, ld (at_map (gr x hxn)) (by show _ * 1 = x; omega), rfl, ?_⟩
      refine callm (at_cm S hS d5 hbne (by omega)) (by omega) ?_
      rintro _ _ ⟨rfl, rfl⟩
      by_cases hm : f x ∈ bfs f g s i
      · have h1 := idx_in hm
        refine ⟨fun h => absurd h (by omega), fun _ => ?_⟩
        have g1 := d5.cast (addL_in hm)
        have e1 := d1
        have e3 := d3
        have hcv1 := hcv
        have hxx := hx
        have hne1 : addL (bfs f g s i) (f x) ≠ [] := fun e => by
          have := hxa (f x); rw [e] at this; simp at this
        have hxl := (List.getElem?_eq_some_iff.1 (hxa (f x))).1
        refine ⟨by kernel_rfl, ?_⟩
        refine ⟨_, load_c (contOf_live d1) rfl rfl, rfl, ?_⟩
        refine ⟨⟨by omega, by omega⟩, ?_⟩
        refine ⟨_, load_k rfl rfl hcv (at_map (hx)) (by show 0 + _ * 1 = i; omega), rfl, ?_⟩
        refine ⟨⟨⟨by omega, by omega⟩, len_map_le (by omega)⟩, ?_⟩
        refine ⟨_, ld (at_map (gu x hxn)) (by show _ * 1 = x; omega), rfl, ?_⟩
        refine callm (at_cm S hS g1 hne1 (by omega)) (by omega) ?_
        rintro _ _ ⟨rfl, rfl⟩
        by_cases hm2 : g x ∈ addL (bfs f g s i) (f x)
        · have h2 := idx_in hm2
          refine ⟨fun h => absurd h (by omega), fun _ => ?_⟩
          refine ⟨⟨by omega, by omega⟩, ?_⟩
          exact ⟨_, by omega, ci ⟨i + 1, _, _, _, _, rfl, ⟨rfl, rfl, rfl, rfl, trivial⟩, rfl, by omega, by omega, ⟨d1, d3, (Gr.cast g1 (by rw [hnx, addL_in hm2]))⟩⟩⟩
        · have h2 := idx_out hm2
          refine ⟨fun _ => ?_, fun h => absurd h (by omega)⟩
          refine ⟨by omega, part1 fzI ⟨[pnn (g x)], rfl, ?_⟩⟩
          have lz := (List.getElem?_eq_some_iff.1 d1).1
          refine appG (f := pnn) (e := 3) (y := g x) (Gr.push g1) push_cont rfl rfl rfl rfl (by kernel_rfl) rfl rfl (by omega) (by omega) fun v2 σ2 hv2 hkp2 hbv2 => ?_
          have f3 : blkOf v2 ≠ some 0 := fun e => by
            rw [hbv2] at e; have := Option.some.inj e; rw [List.length_append, List.length_singleton] at this; omega
          refine ⟨⟨by omega, by omega⟩, ?_⟩
          exact ⟨_, by omega, ci ⟨i + 1, _, v2, σ2, _, rfl, ⟨rfl, rfl, rfl, rfl, trivial⟩, rfl, by omega, by omega, ⟨hkp2 0 _ d3 (push_old d1), f3, by rw [hnx, addL_out hm2]; exact hv2⟩⟩⟩
      · have h1 := idx_out hm
        refine ⟨fun _ => ?_, fun h => absurd h (by omega)⟩
        refine ⟨by omega, part1 fzI ⟨[pnn (f x)], rfl, ?_⟩⟩
        refine appG (f := pnn) (e := 3) (y := f x) d5.push push_cont rfl rfl rfl rfl (by kernel_rfl) rfl rfl (by omega) (by omega) fun v1 σ1 hv1 hkp hbv => ?_
        have e3 : blkOf v1 ≠ some 0 := fun e => by
          rw [hbv] at e; have := Option.some.inj e; rw [List.length_append, List.length_singleton] at this; omega
        have e1 := hkp 0 _ d3 (push_old d1)
        have g1 : Gr pnn 3 v1 σ1 (addL (bfs f g s i) (f x)) := by rw [addL_out hm]; exact hv1
        have hne1 : addL (bfs f g s i) (f x) ≠ [] := fun e => by
          have := hxa (f x); rw [e] at this; simp at this
        have hxl := (List.getElem?_eq_some_iff.1 (hxa (f x))).1
        obtain ⟨jw, tw, hcw, hw⟩ := g1.shape hne1
        rcases hw with rfl | rfl
        all_goals
          refine ⟨by kernel_rfl, ?_⟩
          refine ⟨_, load_c (contOf_live e1) rfl rfl, rfl, ?_⟩
          refine ⟨⟨by omega, by omega⟩, ?_⟩
          refine ⟨_, load_k rfl rfl hcw (at_map (hxa (f x))) (by show 0 + _ * 1 = i; omega), rfl, ?_⟩
          refine ⟨⟨⟨by omega, by omega⟩, len_map_le (by omega)⟩, ?_⟩
          refine ⟨_, ld (at_map (gu x hxn)) (by show _ * 1 = x; omega), rfl, ?_⟩
          refine callm (at_cm S hS g1 hne1 (by omega)) (by omega) ?_
          rintro _ _ ⟨rfl, rfl⟩
          by_cases hm2 : g x ∈ addL (bfs f g s i) (f x)
          · have h2 := idx_in hm2
            refine ⟨fun h => absurd h (by omega), fun _ => ?_⟩
            refine ⟨⟨by omega, by omega⟩, ?_⟩
            exact ⟨_, by omega, ci ⟨i + 1, _, _, _, _, rfl, ⟨rfl, rfl, rfl, rfl, trivial⟩, rfl, by omega, by omega, ⟨e1, e3, (Gr.cast g1 (by rw [hnx, addL_in hm2]))⟩⟩⟩
          · have h2 := idx_out hm2
            refine ⟨fun _ => ?_, fun h => absurd h (by omega)⟩
            refine ⟨by omega, part1 fzI ⟨[pnn (g x)], rfl, ?_⟩⟩
            have lz := (List.getElem?_eq_some_iff.1 e1).1
            refine appG (f := pnn) (e := 3) (y := g x) (Gr.push g1) push_cont rfl rfl rfl rfl (by kernel_rfl) rfl rfl (by omega) (by omega) fun v2 σ2 hv2 hkp2 hbv2 => ?_
            have f3 : blkOf v2 ≠ some 0 := fun e => by
              rw [hbv2] at e; have := Option.some.inj e; rw [List.length_append, List.length_singleton] at this; omega
            refine ⟨⟨by omega, by omega⟩, ?_⟩
            exact ⟨_, by omega, ci ⟨i + 1, _, v2, σ2, _, rfl, ⟨rfl, rfl, rfl, rfl, trivial⟩, rfl, by omega, by omega, ⟨hkp2 0 _ e3 (push_old e1), f3, by rw [hnx, addL_out hm2]; exact hv2⟩⟩⟩
    · have hin : i = n := Classical.byContradiction fun hne => by
        have := bfs_more ho.pr ho.pu ho.pos hs hc (show i < n by omega)
        omega
      obtain ⟨σ', hf⟩ := d5.fz
      rw [pIs_NL, hin, bfs_PL ho.pr ho.pu ho.pos hs hc] at hf
      have hlen2 := (bfs_full ho.pr ho.pu ho.pos hs hc).1
      rw [hin] at hb
      refine cal1 (by rw [hin]; exact hf) (rinverse_ct S hS (es_perm ho.pr ho.pu ho.pos hs hc) (by omega)) (by omega) ?_
      rintro _ rfl
      exact endq rfl rfl
end Go.PI
