/- Own work of the verifier: OgU OgW OgX OzA OgY OgZ OgAa OgAb OgAc OgAd. -/
import Derived.Test.YtefajaiioljjoaaOuAX
import Derived.Test.YtefajaiioljjoaaOuAT
set_option linter.all false
set_option exponentiation.threshold 3000
set_option linter.deprecated false
/- WHETHER AN ORIGAMI IS CONNECTED, of the program. -/
open Go.Proofs
namespace Go.PI
open IM
set_option maxRecDepth 10000
set_option maxHeartbeats 4000000
variable (S : FuncId → Option (List AV → Heap → Option (AV × Heap)))
theorem fn114 : ctx.fn 114 = some c114 := by kernel_rfl
theorem isSplit_ct (hS : OldO S) {r u : List Int} {n : Nat} {f f' g g' : Nat → Nat} (ho : IsO r u n f f' g g') :
    Ct (ctx.plus S) 114 [pO r u] 3100 fun w => (Conn n f g ∧ w = .bool false) ∨ (¬ Conn n f g ∧ w = .bool true) := by
  have hn := ho.le
  have hrl := ho.l1.1
  refine ct_of (hS 114 (by decide)) fn114 ?_
  refine ⟨by omega, ?_⟩
  refine ⟨by kernel_rfl, ?_⟩
  refine ⟨_, rfl, rfl, ?_⟩
  refine callq rfl (reached_ct S hS ho ho.pos) (by omega) ?_
  rintro _ ⟨k, hk, rfl⟩
  have h1 := conn_len ho.pr ho.pu ho.pos hk
  have h2 := bfs_len ho.pr ho.pu ho.pos k
  have h3 : (NL (bfs f g 0 k)).length = (bfs f g 0 k).length := NL_len
  refine ⟨_, rfl, rfl, ?_⟩
  refine ⟨fun h => ?_, fun h => ?_⟩
  · have h : ((NL (bfs f g 0 k)).length : Int) < (r.length : Int) := h
    exact endq rfl (.inr ⟨fun hc => by have := h1.2 hc; omega, rfl⟩)
  · have h : (r.length : Int) ≤ ((NL (bfs f g 0 k)).length : Int) := h
    exact endq rfl (.inl ⟨h1.1 (by omega), rfl⟩)
theorem fn137 : ctx.fn 137 = some c137 := by kernel_rfl
theorem indexSplit_ct (hS : OldO S) {r u : List Int} {n : Nat} {f f' g g' : Nat → Nat} (ho : IsO r u n f f' g g') :
    Ct (ctx.plus S) 137 [pOs [(r, u)], .fn 114] 3200 fun w => (Conn n f g ∧ w = pn (-1)) ∨ (¬ Conn n f g ∧ w = pn 0) := by
  refine ct_of (hS 137 (by decide)) fn137 ?_
  refine ⟨fun m s => ∃ (i b : Nat) (T : List PV), s = ⟨T, [], b⟩ ∧ Gt T 19 [(0, pOs [(r, u)]), (1, .fn 114), (7, pn 1), (8, pn i)] ∧ m = 1 - i ∧ i ≤ 1 ∧ b ≤ 3100 * i ∧ Hid (0 < i → Conn n f g), ⟨_, ci ⟨0, 0, _, rfl, ⟨rfl, rfl, rfl, rfl, rfl, trivial⟩, rfl, Nat.zero_le _, Nat.le_refl _, ⟨fun h => by omega⟩⟩⟩, ?_⟩
  rintro _ s ⟨i, b, T, rfl, hT, rfl, hi, hb, hh⟩
  obtain ⟨J, rfl⟩ := gt_open hT
  clear hT
  refine ⟨fun hlt => ?_, fun hge => ?_⟩
  · have hi0 : i = 0 := by omega
    subst hi0
    refine ⟨⟨⟨by omega, by omega⟩, by show 0 * 2 ≤ _; omega⟩, ?_⟩
    refine ⟨pO r u, rfl, ?_⟩
    refine callq rfl (isSplit_ct S hS ho) (by omega) ?_
    rintro _ (⟨hc, rfl⟩ | ⟨hc, rfl⟩)
    · refine ⟨⟨by omega, by omega⟩, ?_⟩
      exact ⟨_, by omega, ci ⟨1, _, _, rfl, ⟨rfl, rfl, rfl, rfl, rfl, trivial⟩, rfl, by omega, by omega, ⟨fun _ => hc⟩⟩⟩
    · exact endq rfl (.inr ⟨hc, rfl⟩)
  · exact endq rfl (.inl ⟨hh.h (by omega), rfl⟩)
theorem fn113 : ctx.fn 113 = some c113 := by kernel_rfl
theorem containsSplit_ct (hS : OldO S) {r u : List Int} {n : Nat} {f f' g g' : Nat → Nat} (ho : IsO r u n f f' g g') :
    Ct (ctx.plus S) 113 [pOs [(r, u)], .fn 114] 3200 fun w => (Conn n f g ∧ w = .bool false) ∨ (¬ Conn n f g ∧ w = .bool true) := by
  refine ct_of (hS 113 (by decide)) fn113 ?_
  refine callq rfl (indexSplit_ct S hS ho) (by omega) ?_
  rintro _ (⟨hc, rfl⟩ | ⟨hc, rfl⟩)
  · exact ⟨fun h => by omega, fun _ => endq rfl (.inl ⟨hc, rfl⟩)⟩
  · exact ⟨fun _ => endq rfl (.inr ⟨hc, rfl⟩), fun h => by omega⟩
theorem fn72 : ctx.fn 72 = some c72 := by kernel_rfl
theorem checkConn_bad (hS : OldO S) {r u : List Int} (l1 : r.length ≤ 1000000) (l2 : u.length ≤ 1000000) (h : chkO r u ≠ 0) : Ct (ctx.plus S) 72 [pOs [(r, u)]] 3300 fun v => v = pn (chkO r u) := by
  refine ct_of (hS 72 (by decide)) fn72 ?_
  refine callq rfl (check1_ct S hS l1 l2) (by omega) ?_
  rintro _ rfl
  refine ⟨fun h0 => absurd h0 h, fun _ => ?_⟩
  exact endq rfl rfl
open Classical in
noncomputable def cc (n : Nat) (f g : Nat → Nat) : Int := if Conn n f g then 0 else 16
theorem checkConn_ok (hS : OldO S) {r u : List Int} {n : Nat} {f f' g g' : Nat → Nat} (ho : IsO r u n f f' g g') : Ct (ctx.plus S) 72 [pOs [(r, u)]] 3300 fun v => v = pn (cc n f g) := by
  have hl := ho.l1
  have hn := ho.le
  have h0 := ho.chk
  refine ct_of (hS 72 (by decide)) fn72 ?_
  refine callq rfl (check1_ct S hS (by omega) (by omega)) (by omega) ?_
  rintro _ rfl
  rw [h0]
  refine ⟨fun _ => ?_, fun h => absurd rfl h⟩
  refine callq rfl (containsSplit_ct S hS ho) (by omega) ?_
  rintro _ (⟨hc, rfl⟩ | ⟨hc, rfl⟩)
  · exact endq rfl (by unfold cc; rw [if_pos hc])
  · exact endq rfl (by unfold cc; rw [if_neg hc])
end Go.PI
/- COMPONENTS of the reference. -/
open Go.Proofs
namespace Go.PI
open IM
set_option maxRecDepth 10000
set_option maxHeartbeats 4000000
variable (S : FuncId → Option (List AV → Heap → Option (AV × Heap)))
structure FlI (n : Nat) (f g : Nat → Nat) (s i j : Nat) (fl : List Bool) : Prop where
  len : fl.length = n
  snd : ∀ y, fl[y]? = some true → Rch f g s y
  rnd : ∀ y, y < n → RchK f g s i y → fl[y]? = some true
  nxt : ∀ z, z < j → RchK f g s i z → fl[f z]? = some true ∧ fl[g z]? = some true
theorem set_true {fl : List Bool} {q y : Nat} (h : fl[y]? = some true) : (fl.set q true)[y]? = some true := by
  by_cases e : q = y
  · subst e; rw [List.getElem?_set_self (List.getElem?_eq_some_iff.1 h).1]
  · rw [List.getElem?_set_ne e]; exact h
theorem set_true_inv {fl : List Bool} {q y : Nat} (h : (fl.set q true)[y]? = some true) : y = q ∨ fl[y]? = some true := by
  by_cases e : q = y
  · exact .inl e.symm
  · rw [List.getElem?_set_ne e] at h; exact .inr h
section
variable {n s i j : Nat} {f f' g g' : Nat → Nat} {fl : List Bool}
theorem fl_mark (h : FlI n f g s i j fl) (hj : fl[j]? = some true) (hf : f j < n) (hg : g j < n) : FlI n f g s i (j + 1) ((fl.set (f j) true).set (g j) true) := by
  have hr := h.snd j hj
  have hl := h.len
  refine ⟨by simp [hl], fun y hy => ?_, fun y hy hk => set_true (set_true (h.rnd y hy hk)), fun z hz hk => ?_⟩
  · rcases set_true_inv hy with rfl | hy
    · exact .g hr
    · rcases set_true_inv hy with rfl | hy
      · exact .f hr
      · exact h.snd y hy
  · by_cases e : z = j
    · subst e
      exact ⟨set_true (by rw [List.getElem?_set_self (by omega)]), by rw [List.getElem?_set_self (by rw [List.length_set]; omega)]⟩
    · have := h.nxt z (by omega) hk
      exact ⟨set_true (set_true this.1), set_true (set_true this.2)⟩
theorem fl_skip (h : FlI n f g s i j fl) (hj : fl[j]? = some false) : FlI n f g s i (j + 1) fl := by
  refine ⟨h.len, h.snd, h.rnd, fun z hz hk => ?_⟩
  by_cases e : z = j
  · subst e
    have := h.rnd z (by have := (List.getElem?_eq_some_iff.1 hj).1; have := h.len; omega) hk
    rw [hj] at this; cases this
  · exact h.nxt z (by omega) hk
theorem fl_next (pf : IsP n f f') (pg : IsP n g g') (hs : s < n) (h : FlI n f g s i n fl) : FlI n f g s (i + 1) 0 fl := by
  refine ⟨h.len, h.snd, fun y hy hk => ?_, fun z hz => by omega⟩
  rcases hk with hk | ⟨z, hk, rfl | rfl⟩
  · exact h.rnd y hy hk
  · exact (h.nxt z (rch_lt pf pg hs (rchK_rch hk)) hk).1
  · exact (h.nxt z (rch_lt pf pg hs (rchK_rch hk)) hk).2
theorem fl_zero (hs : s < n) : FlI n f g s 0 0 ((List.replicate n false).set s true) := by
  refine ⟨by simp, fun y hy => ?_, fun y hy hk => ?_, fun z hz => by omega⟩
  · rcases set_true_inv hy with rfl | hy
    · exact .refl
    · rw [List.getElem?_replicate] at hy
      split at hy <;> simp at hy
  · rw [show y = s from hk, List.getElem?_set_self (by simpa using hs)]
theorem fl_done (pf : IsP n f f') (pg : IsP n g g') (hs : s < n) (h : FlI n f g s n j fl) (y : Nat) : fl[y]? = some true ↔ Rch f g s y := by
  refine ⟨h.snd y, fun hr => ?_⟩
  have hm := bfs_all (bfs_len pf pg hs n) hr
  obtain ⟨p, hp⟩ := List.getElem?_of_mem hm
  have hd := bfs_dist n p y hp
  have hpl := (List.getElem?_eq_some_iff.1 hp).1
  have hbl := bfs_len pf pg hs n
  have := rchK_mono (n - p) hd
  rw [show p + (n - p) = n by omega] at this
  exact h.rnd y (rch_lt pf pg hs hr) this
end
open Classical in
noncomputable def compTo (f g : Nat → Nat) (s k : Nat) : List Nat := (List.range k).filter fun y => decide (Rch f g s y)
theorem compTo_yes {f g : Nat → Nat} {s k : Nat} (h : Rch f g s k) : compTo f g s (k + 1) = compTo f g s k ++ [k] := by
  unfold compTo
  rw [List.range_succ, List.filter_append, List.filter_cons_of_pos (by simpa using h)]
  rfl
theorem compTo_no {f g : Nat → Nat} {s k : Nat} (h : ¬ Rch f g s k) : compTo f g s (k + 1) = compTo f g s k := by
  unfold compTo
  rw [List.range_succ, List.filter_append, List.filter_cons_of_neg (by simpa using h)]
  simp
theorem compTo_len {f g : Nat → Nat} {s k : Nat} : (compTo f g s k).length ≤ k := by
  have := List.length_filter_le (fun y => @decide (Rch f g s y) (Classical.propDecidable _)) (List.range k)
  rw [List.length_range] at this
  exact this
theorem fn68 : ctx.fn 68 = some c68 := by kernel_rfl
theorem component_ct (hS : OldO S) {r u : List Int} {n s : Nat} {f f' g g' : Nat → Nat} (ho : IsO r u n f f' g g') (hs : s < n) :
    Ct (ctx.plus S) 68 [pO r u, pn s] 5000 fun w => w = pIs (NL (compTo f g s n)) := by
  have hn := ho.le
  have hrl := ho.l1.1
  subst hrl
  have gr : ∀ i, i < r.length → r[i]? = some (f i : Int) := fun i hi => by rw [ho.hr, PL_get hi]
  have gu : ∀ i, i < r.length → u[i]? = some (g i : Int) := fun i hi => by rw [ho.hu, PL_get hi]
  have hul := ho.l1.2
  refine ct_of (hS 68 (by decide)) fn68 ?_
  refine ⟨by omega, ?_⟩
  refine ⟨_, rfl, ?_⟩
  refine callq rfl (size_ct S hS) (by omega) ?_
  rintro _ rfl
  refine ⟨by omega, ⟨by omega, by omega, by omega⟩, _, flg_zero, ?_⟩
  refine ⟨⟨by omega, by omega⟩, ?_⟩
  refine ⟨_, _, rfl, ⟨rfl, by rw [List.length_map, List.length_replicate]; show 0 + s * 1 + 1 ≤ _; omega, rfl⟩, _, flg_put (by show 0 + s * 1 = s; omega) (by rw [List.length_replicate]; omega), _, rfl, ?_⟩
  refine ⟨fun m st => ∃ (i b : Nat) (fl : List Bool) (T : List PV), st = ⟨T, [.live 24 [pIs r, pIs u], .live 4 (fl.map PV.bool)], b⟩ ∧ Gt T 61 [(2, .optr 0 0), (5, .own 1 0 r.length r.length 1), (6, pn i)] ∧ m = r.length - i ∧ i ≤ r.length ∧ b ≤ 4 + 62 * i ∧ Hid (FlI r.length f g s i 0 fl), ⟨_, ci ⟨0, _, _, _, rfl, ⟨rfl, rfl, rfl, rfl, trivial⟩, rfl, Nat.zero_le _, by omega, ⟨fl_zero hs⟩⟩⟩, ?_⟩
  rintro _ st ⟨i, b, fl, T, rfl, hT, rfl, hi, hb, hh⟩
  obtain ⟨J, rfl⟩ := gt_open hT
  clear hT
  refine ⟨_, rfl, ?_⟩
  refine callq rfl (size_ct S hS) (by omega) ?_
  rintro _ rfl
  refine ⟨fun hlt => ?_, fun hge => ?_⟩
  · refine ⟨fun m st => ∃ (j b' : Nat) (fl : List Bool) (T : List PV), st = ⟨T, [.live 24 [pIs r, pIs u], .live 4 (fl.map PV.bool)], b'⟩ ∧ Gt T 61 [(2, .optr 0 0), (5, .own 1 0 r.length r.length 1), (6, pn i), (7, pn j)] ∧ m = r.length - j ∧ j ≤ r.length ∧ b' ≤ 5 + 62 * i + j ∧ Hid (FlI r.length f g s i j fl), ⟨_, ci ⟨0, _, _, _, rfl, ⟨rfl, rfl, rfl, rfl, rfl, trivial⟩, rfl, Nat.zero_le _, by omega, hh⟩⟩, ?_⟩
    clear hh fl
    rintro _ st ⟨j, b', fl, T, rfl, hT, rfl, hj, hb', hh⟩
    obtain ⟨J, rfl⟩ := gt_open hT
    clear hT
    have hfl := hh.h.len
    refine ⟨_, rfl, ?_⟩
    refine callq rfl (size_ct S hS) (by omega) ?_
    rintro _ rfl
    refine ⟨fun hlt2 => ?_, fun hge2 => ?_⟩
    · have hjn : j < r.length := by omega
      have c1 := ho.pr.lt j hjn
      have c2 := ho.pu.lt j hjn
      obtain ⟨q, hq⟩ : ∃ q, fl[j]? = some q := ⟨fl[j]'(by omega), List.getElem?_eq_getElem _⟩
      refine ⟨⟨by omega, by omega⟩, ?_⟩
      refine ⟨_, load_k rfl rfl rfl (at_map hq) (by show 0 + _ * 1 = j; omega), ?_⟩
      cases q with
      | true =>
        refine ⟨by kernel_rfl, ?_⟩
        refine ⟨_, rfl, rfl, ?_⟩
        refine ⟨⟨⟨by omega, by omega⟩, len_map_le (by omega)⟩, ?_⟩
        refine ⟨_, ld (at_map (gr j hjn)) (by show _ * 1 = j; omega), rfl, ?_⟩
        refine ⟨_, rfl, rfl, ?_⟩
        refine ⟨⟨⟨by omega, by omega⟩, len_map_le (by omega)⟩, ?_⟩
        refine ⟨_, ld (at_map (gu j hjn)) (by show _ * 1 = j; omega), rfl, ?_⟩
        refine ⟨⟨by omega, by omega⟩, ?_⟩
        refine ⟨_, _, rfl, ⟨rfl, by rw [List.length_map]; show 0 + f j * 1 + 1 ≤ _; omega, rfl⟩, _, flg_put (by show 0 + f j * 1 = f j; omega) (by omega), _, rfl, ?_⟩
        refine ⟨⟨by omega, by omega⟩, ?_⟩
        refine ⟨_, _, rfl, ⟨rfl, by rw [List.length_map, List.length_set]; show 0 + g j * 1 + 1 ≤ _; omega, rfl⟩, _, flg_put (by show 0 + g j * 1 = g j; omega) (by rw [List.length_set]; omega), _, rfl, ?_⟩
        refine ⟨⟨by omega, by omega⟩, ?_⟩
        exact ⟨_, by omega, ci ⟨j + 1, _, _, _, rfl, ⟨rfl, rfl, rfl, rfl, rfl, trivial⟩, rfl, by omega, by omega, ⟨fl_mark hh.h hq c1 c2⟩⟩⟩
      | false =>
        refine ⟨⟨by omega, by omega⟩, ?_⟩
        exact ⟨_, by omega, ci ⟨j + 1, _, fl, _, rfl, ⟨rfl, rfl, rfl, rfl, rfl, trivial⟩, rfl, by omega, by omega, ⟨fl_skip hh.h hq⟩⟩⟩
    · have hjn : j = r.length := by omega
      subst hjn
      refine ⟨⟨by omega, by omega⟩, ?_⟩
      exact ⟨_, by omega, ci ⟨i + 1, _, fl, _, rfl, ⟨rfl, rfl, rfl, rfl, trivial⟩, rfl, by omega, by omega, ⟨fl_next ho.pr ho.pu hs hh.h⟩⟩⟩
  · have hin : i = r.length := by omega
    subst hin
    have hdone := fl_done ho.pr ho.pu hs hh.h
    have hfl := hh.h.len
    refine ⟨fun m st => ∃ (k b' : Nat) (v : PV) (σ : List StB) (T : List PV), st = ⟨T, σ, b'⟩ ∧ Gt T 61 [(2, .optr 0 0), (5, .own 1 0 r.length r.length 1), (8, v), (9, pn k)] ∧ m = r.length - k ∧ k ≤ r.length ∧ b' ≤ 70 + 62 * r.length + 3 * k ∧ Hid (σ[0]? = some (.live 24 [pIs r, pIs u]) ∧ σ[1]? = some (.live 4 (fl.map PV.bool)) ∧ blkOf v ≠ some 0 ∧ blkOf v ≠ some 1 ∧ Gr pnn 3 v σ (compTo f g s k)), ⟨_, ci ⟨0, _, .nils, _, _, rfl, ⟨rfl, rfl, rfl, rfl, rfl, trivial⟩, rfl, Nat.zero_le _, by omega, ⟨rfl, rfl, (fun h => by cases h), (fun h => by cases h), .nil⟩⟩⟩, ?_⟩
    rintro _ st ⟨k, b', v, σ, T, rfl, hT, rfl, hk, hb', hh2⟩
    obtain ⟨J, rfl⟩ := gt_open hT
    clear hT
    obtain ⟨d1, d2, d3, d4, d5⟩ := hh2.h
    refine ⟨_, load_c (contOf_live d1) rfl rfl, ?_⟩
    refine callq rfl (size_ct S hS (r := r) (u := u)) (by omega) ?_
    rintro _ rfl
    refine ⟨fun hlt2 => ?_, fun hge2 => ?_⟩
    · have hki : k < r.length := by omega
      obtain ⟨q, hq⟩ : ∃ q, fl[k]? = some q := ⟨fl[k]'(by omega), List.getElem?_eq_getElem _⟩
      refine ⟨⟨by omega, by omega⟩, ?_⟩
      refine ⟨_, load_k rfl rfl (contOf_live d2) (at_map hq) (by show 0 + _ * 1 = k; omega), ?_⟩
      cases q with
      | true =>
        have hr := (hdone k).1 hq
        refine ⟨by omega, part1 fzI ⟨[pnn k], rfl, ?_⟩⟩
        have hcl : (compTo f g s k).length ≤ k := compTo_len
        have l0 := (List.getElem?_eq_some_iff.1 d1).1
        have l1 := (List.getElem?_eq_some_iff.1 d2).1
        refine appG (f := pnn) (e := 3) (y := k) d5.push push_cont rfl rfl rfl rfl (by kernel_rfl) rfl rfl (by omega) (by omega) fun v' σ' hv' hkp hbv => ?_
        have hne : ∀ q, q < σ.length → blkOf v' ≠ some q := fun q hq e => by
          rw [hbv] at e; have := Option.some.inj e; rw [List.length_append, List.length_singleton] at this; omega
        refine ⟨⟨by omega, by omega⟩, ?_⟩
        exact ⟨_, by omega, ci ⟨k + 1, _, v', σ', _, rfl, ⟨rfl, rfl, rfl, rfl, rfl, trivial⟩, rfl, by omega, by omega, ⟨hkp 0 _ d3 (push_old d1), hkp 1 _ d4 (push_old d2), hne 0 l0, hne 1 l1, by rw [compTo_yes hr]; exact hv'⟩⟩⟩
      | false =>
        have hr : ¬ Rch f g s k := fun h => by have := (hdone k).2 h; rw [hq] at this; cases this
        refine ⟨⟨by omega, by omega⟩, ?_⟩
        exact ⟨_, by omega, ci ⟨k + 1, _, v, σ, _, rfl, ⟨rfl, rfl, rfl, rfl, rfl, trivial⟩, rfl, by omega, by omega, ⟨d1, d2, d3, d4, by rw [compTo_no hr]; exact d5⟩⟩⟩
    · have hki : k = r.length := by omega
      obtain ⟨σ', hf⟩ := d5.fz
      exact endf hf (by rw [hki]; exact pIs_NL)
end Go.PI
/- COMPONENTS of the reference, all of them; whether an origami is one that is connected. -/
open Go.Proofs
namespace Go.PI
open IM
set_option maxRecDepth 10000
set_option maxHeartbeats 4000000
variable (S : FuncId → Option (List AV → Heap → Option (AV × Heap)))
def Low (f g : Nat → Nat) (s : Nat) : Prop := ∀ y, y < s → ¬ Rch f g s y
theorem mem_compTo {f g : Nat → Nat} {s n y : Nat} : y ∈ compTo f g s n ↔ y < n ∧ Rch f g s y := by
  unfold compTo
  rw [List.mem_filter, List.mem_range]
  simp
theorem comp_head {f g : Nat → Nat} {s n : Nat} (hs : s < n) : ∃ h, (compTo f g s n)[0]? = some h ∧ Rch f g s h ∧ h ≤ s ∧ ∀ y, y < n → Rch f g s y → h ≤ y := by
  have hm : s ∈ compTo f g s n := mem_compTo.2 ⟨hs, .refl⟩
  have hp : (compTo f g s n).Pairwise (· < ·) := List.Pairwise.filter _ List.pairwise_lt_range
  have hmem := fun y => mem_compTo (f := f) (g := g) (s := s) (n := n) (y := y)
  cases hc : compTo f g s n with
  | nil => rw [hc] at hm; simp at hm
  | cons h t =>
    rw [hc] at hp hm hmem
    have hall : ∀ y, y < n → Rch f g s y → h ≤ y := fun y hy hr => by
      rcases List.mem_cons.1 ((hmem y).2 ⟨hy, hr⟩) with e | e
      · omega
      · have := List.rel_of_pairwise_cons hp e; omega
    exact ⟨h, rfl, ((hmem h).1 (by simp)).2, hall s hs .refl, hall⟩
theorem head_low {f g : Nat → Nat} {s n h : Nat} (hs : s < n) (hr : Rch f g s h) (hle : h ≤ s) (ha : ∀ y, y < n → Rch f g s y → h ≤ y) : h = s ↔ Low f g s := by
  constructor
  · rintro rfl y hy hc
    have := ha y (by omega) hc
    omega
  · intro hl
    refine Classical.byContradiction fun hne => hl h (by omega) hr
open Classical in
noncomputable def lows (f g : Nat → Nat) (k : Nat) : List Nat := (List.range k).filter fun y => decide (Low f g y)
theorem mem_lows {f g : Nat → Nat} {k y : Nat} : y ∈ lows f g k ↔ y < k ∧ Low f g y := by
  unfold lows
  rw [List.mem_filter, List.mem_range]
  simp
theorem lows_yes {f g : Nat → Nat} {k : Nat} (h : Low f g k) : lows f g (k + 1) = lows f g k ++ [k] := by
  unfold lows
  rw [List.range_succ, List.filter_append, List.filter_cons_of_pos (by simpa using h)]
  rfl
theorem lows_no {f g : Nat → Nat} {k : Nat} (h : ¬ Low f g k) : lows f g (k + 1) = lows f g k := by
  unfold lows
  rw [List.range_succ, List.filter_append, List.filter_cons_of_neg (by simpa using h)]
  simp
theorem lows_len {f g : Nat → Nat} {k : Nat} : (lows f g k).length ≤ k := by
  have := List.length_filter_le (fun y => @decide (Low f g y) (Classical.propDecidable _)) (List.range k)
  rw [List.length_range] at this
  exact this
theorem lows_nodup {f g : Nat → Nat} {k : Nat} : (lows f g k).Nodup := by
  unfold lows List.Nodup
  exact (List.Pairwise.filter _ List.pairwise_lt_range).imp fun h e => by omega
noncomputable def compsTo (f g : Nat → Nat) (n k : Nat) : List (List Int) := (lows f g k).map fun s => NL (compTo f g s n)
theorem compsTo_len {f g : Nat → Nat} {n k : Nat} : (compsTo f g n k).length = (lows f g k).length := by unfold compsTo; rw [List.length_map]
theorem compsTo_yes {f g : Nat → Nat} {n k : Nat} (h : Low f g k) : compsTo f g n (k + 1) = compsTo f g n k ++ [NL (compTo f g k n)] := by
  unfold compsTo
  rw [lows_yes h, List.map_append]
  rfl
theorem compsTo_no {f g : Nat → Nat} {n k : Nat} (h : ¬ Low f g k) : compsTo f g n (k + 1) = compsTo f g n k := by
  unfold compsTo
  rw [lows_no h]
theorem low_zero {f g : Nat → Nat} : Low f g 0 := fun y hy => by omega
theorem conn_comps {n : Nat} {f f' g g' : Nat → Nat} (pf : IsP n f f') (pg : IsP n g g') (h0 : 0 < n) : (compsTo f g n n).length = 1 ↔ Conn n f g := by
  rw [compsTo_len]
  have hz : 0 ∈ lows f g n := mem_lows.2 ⟨h0, low_zero⟩
  constructor
  · intro e y hy
    refine Classical.byContradiction fun hc => ?_
    obtain ⟨h, -, hr, hle, ha⟩ := comp_head (f := f) (g := g) hy
    have hhn : h < n := by omega
    have hlow : Low f g h := fun z hz hzr => by
      have := ha z (by omega) (hr.trans hzr)
      omega
    have hne : h ≠ 0 := fun e0 => by
      subst e0
      exact hc (hr.symm pf pg hy)
    have := len_le_of (l := [0, h]) (m := lows f g n) (by simp; omega) fun z hz' => by
      simp at hz'
      rcases hz' with rfl | rfl
      · exact hz
      · exact mem_lows.2 ⟨hhn, hlow⟩
    simp at this
    omega
  · intro hc
    have h1 := len_le_of (l := lows f g n) (m := [0]) lows_nodup fun z hz' => by
      obtain ⟨a, b⟩ := mem_lows.1 hz'
      rw [List.mem_singleton]
      refine Classical.byContradiction fun hne => b 0 (by omega) ((hc z a).symm pf pg h0)
    have h2 := len_le_of (l := [0]) (m := lows f g n) (by simp) fun z hz' => by
      rw [List.mem_singleton.1 hz']; exact hz
    simp at h1 h2
    omega
theorem fn20 : ctx.fn 20 = some c20 := by kernel_rfl
theorem rcomponents_ct (hS : OldO S) {r u : List Int} {n : Nat} {f f' g g' : Nat → Nat} (ho : IsO r u n f f' g g') :
    Ct (ctx.plus S) 20 [pO r u] 310000 fun w => w = pM (compsTo f g n n) := by
  have hn := ho.le
  have hrl := ho.l1.1
  refine ct_of (hS 20 (by decide)) fn20 ?_
  refine ⟨by omega, ?_⟩
  refine ⟨fun m st => ∃ (k b : Nat) (v : PV) (σ : List StB) (T : List PV), st = ⟨T, σ, b⟩ ∧ Gt T 25 [(1, .optr 0 0), (3, v), (4, pn k)] ∧ m = n - k ∧ k ≤ n ∧ b ≤ 4 + 5010 * k ∧ Hid (σ[0]? = some (.live 24 [pIs r, pIs u]) ∧ blkOf v ≠ some 0 ∧ Gr pIs 22 v σ (compsTo f g n k)), ⟨_, ci ⟨0, _, .nils, _, _, rfl, ⟨rfl, rfl, rfl, rfl, trivial⟩, rfl, Nat.zero_le _, by omega, ⟨rfl, (fun h => by cases h), .nil⟩⟩⟩, ?_⟩
  rintro _ st ⟨k, b, v, σ, T, rfl, hT, rfl, hk, hb, hh⟩
  obtain ⟨J, rfl⟩ := gt_open hT
  clear hT
  obtain ⟨d1, d3, d5⟩ := hh.h
  have l0 := (List.getElem?_eq_some_iff.1 d1).1
  refine ⟨_, load_c (contOf_live d1) rfl rfl, ?_⟩
  refine callq rfl (size_ct S hS (r := r) (u := u)) (by omega) ?_
  rintro _ rfl
  refine ⟨fun hlt => ?_, fun hge => ?_⟩
  · have hkn : k < n := by omega
    obtain ⟨h, hh0, hr, hle, ha⟩ := comp_head (f := f) (g := g) hkn
    have hlow := head_low hkn hr hle ha
    have hcl : (compTo f g k n).length ≤ n := compTo_len
    have hnl : (NL (compTo f g k n)).length = (compTo f g k n).length := NL_len
    have hpos := (List.getElem?_eq_some_iff.1 hh0).1
    refine ⟨_, load_c (contOf_live d1) rfl rfl, ?_⟩
    refine callq rfl (component_ct S hS ho hkn) (by omega) ?_
    rintro _ rfl
    refine ⟨⟨⟨by omega, by omega⟩, len_map_le (by omega)⟩, ?_⟩
    refine ⟨_, ld (at_map (NL_get hh0)) (by show _ * 1 = 0; omega), ?_⟩
    refine ⟨fun heq => ?_, fun hne => ?_⟩
    · have hL : Low f g k := hlow.1 (by omega)
      refine ⟨by omega, part1 fzL ⟨[pIs (NL (compTo f g k n))], rfl, ?_⟩⟩
      have hcn : (compsTo f g n k).length ≤ k := by rw [compsTo_len]; exact lows_len
      refine appG (f := pIs) (e := 22) (y := NL (compTo f g k n)) d5.push push_cont rfl rfl rfl rfl (by kernel_rfl) rfl rfl (by omega) (by omega) fun v' σ' hv' hkp hbv => ?_
      have hne : ∀ q, q < σ.length → blkOf v' ≠ some q := fun q hq e => by
        rw [hbv] at e; have := Option.some.inj e; rw [List.length_append, List.length_singleton] at this; omega
      refine ⟨⟨by omega, by omega⟩, ?_⟩
      exact ⟨_, by omega, ci ⟨k + 1, _, v', σ', _, rfl, ⟨rfl, rfl, rfl, rfl, trivial⟩, rfl, by omega, by omega, ⟨hkp 0 _ d3 (push_old d1), hne 0 l0, by rw [compsTo_yes hL]; exact hv'⟩⟩⟩
    · have hL : ¬ Low f g k := fun hc => hne (by have := hlow.2 hc; omega)
      refine ⟨⟨by omega, by omega⟩, ?_⟩
      exact ⟨_, by omega, ci ⟨k + 1, _, v, σ, _, rfl, ⟨rfl, rfl, rfl, rfl, trivial⟩, rfl, by omega, by omega, ⟨d1, d3, by rw [compsTo_no hL]; exact d5⟩⟩⟩
  · have hkn : k = n := by omega
    subst hkn
    obtain ⟨σ', hf⟩ := d5.fz
    exact endf hf rfl
theorem fn74 : ctx.fn 74 = some c74 := by kernel_rfl
theorem rconnected_ct (hS : OldO S) {r u : List Int} {n : Nat} {f f' g g' : Nat → Nat} (ho : IsO r u n f f' g g') :
    Ct (ctx.plus S) 74 [pO r u] 310001 fun w => (Conn n f g ∧ w = .bool true) ∨ (¬ Conn n f g ∧ w = .bool false) := by
  have h1 := conn_comps ho.pr ho.pu ho.pos
  refine ct_of (hS 74 (by decide)) fn74 ?_
  refine ⟨by omega, ?_⟩
  refine ⟨_, rfl, ?_⟩
  refine callq rfl (rcomponents_ct S hS ho) (by omega) ?_
  rintro _ rfl
  refine ⟨fun h => ?_, fun h => ?_⟩
  · exact endq rfl (.inl ⟨h1.1 (by omega), rfl⟩)
  · exact endq rfl (.inr ⟨fun hc => h (by have := h1.2 hc; omega), rfl⟩)
theorem fn28 : ctx.fn 28 = some c28 := by kernel_rfl
theorem checkOne_bad (hS : OldO S) {r u : List Int} (l1 : r.length ≤ 1000000) (l2 : u.length ≤ 1000000) (h : chkO r u ≠ 0) : Ct (ctx.plus S) 28 [pO r u] 2 fun v => v = pn (chkO r u) := by
  refine ct_of (hS 28 (by decide)) fn28 ?_
  refine ⟨by omega, ?_⟩
  refine ⟨_, rfl, ?_⟩
  refine callq rfl (rcheck_ct S hS l1 l2) (by omega) ?_
  rintro _ rfl
  exact ⟨fun _ => endq rfl rfl, fun h0 => absurd h0 h⟩
theorem checkOne_ok (hS : OldO S) {r u : List Int} {n : Nat} {f f' g g' : Nat → Nat} (ho : IsO r u n f f' g g') : Ct (ctx.plus S) 28 [pO r u] 310010 fun v => v = pn (cc n f g) := by
  have hl := ho.l1
  have hn := ho.le
  have h0 := ho.chk
  refine ct_of (hS 28 (by decide)) fn28 ?_
  refine ⟨by omega, ?_⟩
  refine ⟨_, rfl, ?_⟩
  refine callq rfl (rcheck_ct S hS (by omega) (by omega)) (by omega) ?_
  rintro _ rfl
  rw [h0]
  refine ⟨fun h => absurd rfl h, fun _ => ?_⟩
  refine ⟨_, rfl, ?_⟩
  refine callq rfl (rconnected_ct S hS ho) (by omega) ?_
  rintro _ (⟨hc, rfl⟩ | ⟨hc, rfl⟩)
  · exact endq rfl (by unfold cc; rw [if_pos hc])
  · exact endq rfl (by unfold cc; rw [if_neg hc])
end Go.PI
/- MAPS OF SQUARES: two ways to find the one that takes square 0 to a square. -/
open Go.Proofs
namespace Go.PI
open IM
inductive Jr (f g F G : Nat → Nat) (s : Nat) : Nat → Nat → Prop
  | base : Jr f g F G s 0 s
  | f {y z : Nat} (h : Jr f g F G s y z) : Jr f g F G s (f y) (F z)
  | g {y z : Nat} (h : Jr f g F G s y z) : Jr f g F G s (g y) (G z)
structure MapAt (n m s : Nat) (f g F G h : Nat → Nat) : Prop where
  z : h 0 = s
  lt : ∀ x, x < n → h x < m
  c : ∀ x, x < n → h (f x) = F (h x) ∧ h (g x) = G (h x)
section
variable {n m s : Nat} {f f' g g' F F' G G' h : Nat → Nat}
theorem jr_lt (pf : IsP n f f') (pg : IsP n g g') (pF : IsP m F F') (pG : IsP m G G') (h0 : 0 < n) (hs : s < m) {y z : Nat} (hj : Jr f g F G s y z) : y < n ∧ z < m := by
  induction hj with
  | base => exact ⟨h0, hs⟩
  | f _ ih => exact ⟨pf.lt _ ih.1, pF.lt _ ih.2⟩
  | g _ ih => exact ⟨pg.lt _ ih.1, pG.lt _ ih.2⟩
theorem jr_map (pf : IsP n f f') (pg : IsP n g g') (h0 : 0 < n) (hm : MapAt n m s f g F G h) {y z : Nat} (hj : Jr f g F G s y z) : y < n ∧ z = h y := by
  induction hj with
  | base => exact ⟨h0, hm.z.symm⟩
  | @f y z _ ih => exact ⟨pf.lt _ ih.1, by rw [(hm.c y ih.1).1, ← ih.2]⟩
  | @g y z _ ih => exact ⟨pg.lt _ ih.1, by rw [(hm.c y ih.1).2, ← ih.2]⟩
theorem jr_back (pf : IsP n f f') (pg : IsP n g g') (pF : IsP m F F') (pG : IsP m G G') (h0 : 0 < n) (hs : s < m) (hl : ∀ x, x < n → h x < m) (hc : ∀ x, x < n → h (f x) = F (h x) ∧ h (g x) = G (h x)) {y z : Nat} (hj : Jr f g F G s y z) : z = h y → h 0 = s := by
  induction hj with
  | base => exact fun e => e.symm
  | @f y z hj ih =>
    obtain ⟨hy, hz⟩ := jr_lt pf pg pF pG h0 hs hj
    intro e
    rw [(hc y hy).1] at e
    refine ih ?_
    exact pF.inj hz (hl y hy) e
  | @g y z hj ih =>
    obtain ⟨hy, hz⟩ := jr_lt pf pg pF pG h0 hs hj
    intro e
    rw [(hc y hy).2] at e
    refine ih ?_
    exact pG.inj hz (hl y hy) e
theorem map_uniq (pf : IsP n f f') (pg : IsP n g g') (h0 : 0 < n) (hcn : Conn n f g) {k : Nat → Nat} (hm : MapAt n m s f g F G h) (km : MapAt n m s f g F G k) : ∀ y, y < n → h y = k y := by
  have key : ∀ y, Rch f g 0 y → Jr f g F G s y (h y) := fun y hr => by
    induction hr with
    | refl => rw [hm.z]; exact .base
    | @f y hr ih => rw [(hm.c y (rch_lt pf pg h0 hr)).1]; exact .f ih
    | @g y hr ih => rw [(hm.c y (rch_lt pf pg h0 hr)).2]; exact .g ih
  intro y hy
  exact (jr_map pf pg h0 km (key y (hcn y hy))).2
theorem map_PL (pf : IsP n f f') (pg : IsP n g g') (h0 : 0 < n) (hcn : Conn n f g) {k : Nat → Nat} (hm : MapAt n m s f g F G h) (km : MapAt n m s f g F G k) : PL n h = PL n k := by
  unfold PL
  exact List.map_congr_left fun y hy => by rw [map_uniq pf pg h0 hcn hm km y (List.mem_range.1 hy)]
end
structure BM (n s : Nat) (f g F G : Nat → Nat) (D Q : List Int) : Prop where
  len : D.length = n
  ql : Q.length + D.count (-1) ≤ n
  bd : ∀ (w : Nat) (d : Int), D[w]? = some d → d = -1 ∨ ∃ z : Nat, d = z ∧ Jr f g F G s w z
  st : D[0]? = some (s : Int)
  q : ∀ v ∈ Q, ∃ w : Nat, v = w ∧ ∃ d : Nat, D[w]? = some (d : Int)
  cl : ∀ (w d : Nat), D[w]? = some (d : Int) → (w : Int) ∉ Q → D[f w]? = some (F d : Int) ∧ D[g w]? = some (G d : Int)
section
variable {n m s : Nat} {f f' g g' F F' G G' h : Nat → Nat} {D Q : List Int}
theorem cnt_set {D : List Int} {z : Nat} {a : Int} (hz : D[z]? = some (-1)) (ha : a ≠ -1) : (D.set z a).count (-1) + 1 = D.count (-1) := by
  obtain ⟨h1, h2⟩ := List.getElem?_eq_some_iff.1 hz
  have hm : (-1 : Int) ∈ D := List.mem_of_getElem? hz
  have hp := List.count_pos_iff.2 hm
  rw [List.count_set h1, h2]
  simp only [beq_self_eq_true, if_true]
  rw [if_neg (by simpa using ha)]
  omega
theorem bm_get {z q : Nat} {a : Int} {e : Nat} (hz : D[z]? = some (-1)) (hq : D[q]? = some (e : Int)) : (D.set z a)[q]? = some (e : Int) := by
  have hqz : z ≠ q := fun e2 => by subst e2; rw [hz] at hq; have := Option.some.inj hq; omega
  rw [List.getElem?_set_ne hqz]; exact hq
theorem BM.put (h : BM n s f g F G D Q) {z e : Nat} (hz : D[z]? = some (-1)) (hj : Jr f g F G s z e) : BM n s f g F G (D.set z (e : Int)) (Q ++ [(z : Int)]) := by
  have hzl := (List.getElem?_eq_some_iff.1 hz).1
  have hc := cnt_set hz (a := (e : Int)) (by omega)
  have hset : ∀ (q : Nat) (x : Int), (D.set z (e : Int))[q]? = some x → (q = z ∧ x = e) ∨ (q ≠ z ∧ D[q]? = some x) := fun q x hq => by
    by_cases hqz : q = z
    · subst hqz
      rw [List.getElem?_set_self hzl] at hq
      exact .inl ⟨rfl, (Option.some.inj hq).symm⟩
    · rw [List.getElem?_set_ne (fun e => hqz e.symm)] at hq
      exact .inr ⟨hqz, hq⟩
  refine ⟨by rw [List.length_set]; exact h.len, by have := h.ql; simp only [List.length_append, List.length_cons, List.length_nil]; omega, fun q x hq => ?_, bm_get hz h.st, fun v hv => ?_, fun q x hq hnq => ?_⟩
  · rcases hset q x hq with ⟨rfl, rfl⟩ | ⟨-, hq⟩
    · exact .inr ⟨e, rfl, hj⟩
    · exact h.bd q x hq
  · rcases List.mem_append.1 hv with hv | hv
    · obtain ⟨w, rfl, d, hd⟩ := h.q v hv
      exact ⟨w, rfl, d, bm_get hz hd⟩
    · rw [List.mem_singleton.1 hv]
      exact ⟨z, rfl, e, List.getElem?_set_self hzl⟩
  · rcases hset q _ hq with ⟨rfl, -⟩ | ⟨-, hq⟩
    · exact absurd (by simp) hnq
    · obtain ⟨a1, a2⟩ := h.cl q x hq fun hm => hnq (by simp [hm])
      exact ⟨bm_get hz a1, bm_get hz a2⟩
theorem BM.pop {w d : Nat} (h : BM n s f g F G D ((w : Int) :: Q)) (hd : D[w]? = some (d : Int)) (h1 : D[f w]? = some (F d : Int)) (h2 : D[g w]? = some (G d : Int)) : BM n s f g F G D Q := by
  refine ⟨h.len, by have := h.ql; simp only [List.length_cons] at this; omega, h.bd, h.st, fun v hv => h.q v (List.mem_cons_of_mem _ hv), fun q x hq hnq => ?_⟩
  by_cases e : q = w
  · subst e
    rw [hd] at hq
    have : x = d := by have := Option.some.inj hq; omega
    subst this
    exact ⟨h1, h2⟩
  · exact h.cl q x hq fun hm => by
      rcases List.mem_cons.1 hm with hm | hm
      · omega
      · exact hnq hm
theorem BM.start (h0 : 0 < n) : BM n s f g F G ((List.replicate n (-1 : Int)).set 0 (s : Int)) [0] := by
  obtain ⟨k, rfl⟩ : ∃ k, n = k + 1 := ⟨n - 1, by omega⟩
  rw [List.replicate_succ, List.set_cons_zero]
  refine ⟨by simp, ?_, fun w d hw => ?_, rfl, fun v hv => ?_, fun w d hw hn => ?_⟩
  · rw [List.count_cons_of_ne (by omega), List.count_replicate_self]
    simp; omega
  · cases w with
    | zero =>
      have := Option.some.inj hw
      exact .inr ⟨s, this.symm, .base⟩
    | succ w =>
      rw [List.getElem?_cons_succ, List.getElem?_replicate] at hw
      split at hw
      · exact .inl (Option.some.inj hw).symm
      · cases hw
  · rw [List.mem_singleton.1 hv]
    exact ⟨0, rfl, s, rfl⟩
  · cases w with
    | zero => exact absurd (by simp) hn
    | succ w =>
      rw [List.getElem?_cons_succ, List.getElem?_replicate] at hw
      split at hw
      · have := Option.some.inj hw; omega
      · cases hw
theorem BM.fin (pf : IsP n f f') (pg : IsP n g g') (pF : IsP m F F') (pG : IsP m G G') (h0 : 0 < n) (hs : s < m) (hcn : Conn n f g) (h : BM n s f g F G D []) : ∃ k, MapAt n m s f g F G k ∧ D = PL n k := by
  have key : ∀ y, Rch f g 0 y → ∃ d : Nat, D[y]? = some (d : Int) := fun y hr => by
    induction hr with
    | refl => exact ⟨s, h.st⟩
    | @f y _ ih => obtain ⟨d, hd⟩ := ih; exact ⟨_, (h.cl y d hd (by simp)).1⟩
    | @g y _ ih => obtain ⟨d, hd⟩ := ih; exact ⟨_, (h.cl y d hd (by simp)).2⟩
  have hk : ∀ y, y < n → D[y]? = some (((D.getD y 0).toNat : Nat) : Int) := fun y hy => by
    obtain ⟨d, hd⟩ := key y (hcn y hy)
    rw [List.getD_eq_getElem?_getD, hd]
    simp
  refine ⟨fun y => (D.getD y 0).toNat, ⟨?_, fun y hy => ?_, fun y hy => ?_⟩, ?_⟩
  · rw [List.getD_eq_getElem?_getD, h.st]; simp
  · rcases h.bd y _ (hk y hy) with hb | ⟨z, hz, hj⟩
    · omega
    · have := (jr_lt pf pg pF pG h0 hs hj).2
      omega
  · obtain ⟨a1, a2⟩ := h.cl y _ (hk y hy) (by simp)
    rw [hk _ (pf.lt y hy)] at a1
    rw [hk _ (pg.lt y hy)] at a2
    have := Option.some.inj a1
    have := Option.some.inj a2
    exact ⟨by omega, by omega⟩
  · apply List.ext_getElem?
    intro y
    by_cases hy : y < n
    · rw [hk y hy, PL_get hy]
    · rw [List.getElem?_eq_none (by rw [h.len]; omega), List.getElem?_eq_none (by rw [PL_len]; omega)]
theorem BM.bad (pf : IsP n f f') (pg : IsP n g g') (h0 : 0 < n) (h : BM n s f g F G D Q) {w d z e : Nat} {c : Bool} (hd : D[w]? = some (d : Int)) (hz : z = if c then f w else g w) (he : D[z]? = some (e : Int)) (hne : e ≠ if c then F d else G d) (k : Nat → Nat) : ¬ MapAt n m s f g F G k := by
  intro hm
  have jw : d = k w ∧ w < n := by
    rcases h.bd w _ hd with hb | ⟨z, hz, hj⟩
    · omega
    · have := jr_map pf pg h0 hm hj
      exact ⟨by omega, this.1⟩
  have jz : e = k z := by
    rcases h.bd z _ he with hb | ⟨z, hz, hj⟩
    · omega
    · have := jr_map pf pg h0 hm hj
      omega
  obtain ⟨c1, c2⟩ := hm.c w jw.2
  cases c with
  | true =>
    have hz : z = f w := hz
    have hne : e ≠ F d := hne
    rw [hz] at jz; exact hne (by rw [jz, c1, jw.1])
  | false =>
    have hz : z = g w := hz
    have hne : e ≠ G d := hne
    rw [hz] at jz; exact hne (by rw [jz, c2, jw.1])
end
end Go.PI
/- THE ORDER in which squares are reached, of the reference. -/
open Go.Proofs
namespace Go.PI
open IM
set_option maxRecDepth 10000
set_option maxHeartbeats 4000000
variable (S : FuncId → Option (List AV → Heap → Option (AV × Heap)))
end Go.PI
/- RENUMBERED squares; which of two comes first: of the reference. -/
open Go.Proofs
namespace Go.PI
open IM
set_option maxRecDepth 10000
set_option maxHeartbeats 4000000
variable (S : FuncId → Option (List AV → Heap → Option (AV × Heap)))
def Oren : Opn := ⟨fun t => Nat.beq t 24, fun t => Nat.beq t 24 || Nat.beq t 22, true⟩
end Go.PI
/- WHICH OF TWO LISTS comes first. -/
open Go.Proofs
namespace Go.PI
open IM
set_option maxRecDepth 10000
set_option maxHeartbeats 4000000
variable (S : FuncId → Option (List AV → Heap → Option (AV × Heap)))
theorem ones_pn {xs : List Int} : pones (xs.map pn) = true := by
  induction xs with
  | nil => rfl
  | cons x xs ih =>
    show ((pn x).one && pones (xs.map pn)) = true
    rw [ih]; rfl
end Go.PI
/- THE LABEL of the reference. -/
open Go.Proofs
namespace Go.PI
open IM
set_option maxRecDepth 10000
set_option maxHeartbeats 4000000
variable (S : FuncId → Option (List AV → Heap → Option (AV × Heap)))
end Go.PI
/- THE LABEL of the reference: the best of all numberings. -/
open Go.Proofs
namespace Go.PI
open IM
set_option maxRecDepth 10000
set_option maxHeartbeats 4000000
variable (S : FuncId → Option (List AV → Heap → Option (AV × Heap)))
end Go.PI
/- NUMBERINGS of the program: one square more; which of two lists comes first. -/
open Go.Proofs
namespace Go.PI
open IM
set_option maxRecDepth 10000
set_option maxHeartbeats 4000000
variable (S : FuncId → Option (List AV → Heap → Option (AV × Heap)))
theorem Gr.smP {α : Type} {f : α → PV} {e : TypeId} {v : PV} {σ : List StB} {Xs : List α} (h : Gr f e v σ Xs) : Go.PI.smP v = true := by
  rcases h with ⟨rfl, h⟩ | ⟨j, ty, rfl, h⟩ | ⟨j, rfl, h⟩ <;> rfl
theorem apW_of {α : Type} {f : α → PV} {e : TypeId} {v : PV} {σ : List StB} {Xs : List α} {T : List PV} {ys : List Tmp} (h : Gr f e v σ Xs) (k : ∀ j, blkOf v = some j → apC T j ys) : apW T ys v := by
  rcases h with ⟨rfl, h⟩ | ⟨j, ty, rfl, h⟩ | ⟨j, rfl, h⟩
  · trivial
  · exact k j rfl
  · exact k j rfl
theorem fn108 : ctx.fn 108 = some c108 := by kernel_rfl
theorem with_cm (hS : OldO S) {σ : List StB} {vr vu : PV} {X Y : List Nat} {a b : Nat} (hr : Gr pnn 3 vr σ X) (hu : Gr pnn 3 vu σ Y) (hru : ∀ j, blkOf vr = some j → blkOf vu ≠ some j) (hl : X.length ≤ 1000) (hl2 : Y.length ≤ 1000) :
    Cm (ctx.plus S) 108 [.agg [vr, vu], .agg [pnn a, pnn b]] σ 10 fun w σ' => ∃ vr' vu', w = .agg [vr', vu'] ∧ Gr pnn 3 vr' σ' (X ++ [a]) ∧ Gr pnn 3 vu' σ' (Y ++ [b]) ∧ (∀ j, blkOf vr' = some j → blkOf vu' ≠ some j) ∧ σ.length ≤ σ'.length ∧
      (∀ i bl, blkOf vr ≠ some i → blkOf vu ≠ some i → σ[i]? = some bl → σ'[i]? = some bl) ∧ (∀ i, i < σ.length → blkOf vr' ≠ some i ∧ blkOf vu' ≠ some i) := by
  refine cm_of Oren (hS 108 (by decide)) fn108 fun c k0 hc => ?_
  refine ⟨by omega, by omega, ?_⟩
  refine ⟨by omega, ?_⟩
  refine ⟨by kernel_rfl, ?_⟩
  have l1 : ∀ x, (σ ++ [x]).length = σ.length + 1 := fun x => by simp
  refine ⟨vr, load_liv (push_old (push_old push_get)) rfl rfl, hr.smP, ?_⟩
  refine ⟨⟨by omega, by omega⟩, ?_⟩
  refine ⟨_, load_k rfl rfl (contOf_app push_cont) (show [pnn a, pnn b][0]? = some (pnn a) from rfl) (by rfl), rfl, ?_⟩
  refine ⟨by omega, part1 fzI ⟨[pnn a], rfl, ?_⟩⟩
  have hA : ∀ j, j < σ.length → σ.length ≠ j := fun j hj e => by omega
  have hA2 : ∀ i, i < σ.length + 2 → i ≠ σ.length + 2 := fun i hi => by omega
  have hB : ∀ x j, j < σ.length → (σ ++ [x]).length ≠ j := fun x j hj e => by rw [l1] at e; omega
  refine ⟨apW_of hr fun j hj => ⟨hA j (hr.blk hj), hB _ j (hr.blk hj), hA j (hr.blk hj), hB _ j (hr.blk hj), trivial⟩, ?_⟩
  have g0 : ∀ {i : Nat} {bl : StB}, σ[i]? = some bl → i < σ.length := fun h => (List.getElem?_eq_some_iff.1 h).1
  refine appG (f := pnn) (e := 3) (y := a) hr.push.push.push.push push_cont rfl rfl rfl rfl (by kernel_rfl) rfl rfl (by omega) (by omega) fun vr' σ4 hr' hk hb' => ?_
  have L3 : (σ ++ [StB.liv 24 [vr, vu]] ++ [StB.live 107 [pnn a, pnn b]] ++ [StB.liv 24 [.nils, .nils]] ++ [StB.live 3 [pnn a]]).length = σ.length + 4 := by simp
  have hb' : blkOf vr' = some (σ.length + 4) := by rw [← L3]; exact hb'
  have hl4 := hr'.blk hb'
  have nr : ∀ i, σ.length ≤ i → blkOf vr ≠ some i := fun i hi e => by have := hr.blk e; omega
  have nu : ∀ i, σ.length ≤ i → blkOf vu ≠ some i := fun i hi e => by have := hu.blk e; omega
  have k0' := hk σ.length _ (nr _ (by omega)) (push_old (push_old (push_old push_get)))
  have k1' := hk (σ.length + 1) _ (nr _ (by omega)) (push_old (push_old (by rw [← l1 (StB.liv 24 [vr, vu])]; exact push_get)))
  have k2' := hk (σ.length + 2) _ (nr _ (by omega)) (push_old (by rw [show σ.length + 2 = (σ ++ [StB.liv 24 [vr, vu]] ++ [StB.live 107 [pnn a, pnn b]]).length by simp]; exact push_get))
  have hu4 : Gr pnn 3 vu σ4 Y := hu.keep fun i bl hi hbl => hk i bl (fun e => hru i e hi) (push_old (push_old (push_old (push_old hbl))))
  refine ⟨vu, load_liv k0' rfl rfl, hu.smP, ?_⟩
  refine ⟨⟨by omega, by omega⟩, ?_⟩
  rw [l1]
  refine ⟨_, load_k rfl rfl (contOf_live k1') (show [pnn a, pnn b][1]? = some (pnn b) from rfl) (by rfl), rfl, ?_⟩
  refine ⟨by omega, part1 fzI ⟨[pnn b], rfl, ?_⟩⟩
  have L4 : (σ4 ++ [StB.live 3 [pnn b]]).length = σ4.length + 1 := by simp
  refine ⟨apW_of hu4 fun j hj => ?_, ?_⟩
  · have hjl := hu.blk hj
    exact ⟨hA j hjl, fun e => by omega, hA j hjl, fun e => by omega, trivial⟩
  refine appG (f := pnn) (e := 3) (y := b) hu4.push push_cont rfl rfl rfl rfl (by kernel_rfl) rfl rfl (by omega) (by omega) fun vu' σ5 hu' hk5 hb5 => ?_
  rw [L4] at hb5
  have hl5 := hu'.blk hb5
  have k2'' := hk5 (σ.length + 2) _ (nu _ (by omega)) (push_old k2')
  have L2 : ∀ x y, (σ ++ [x] ++ [y]).length = σ.length + 2 := fun x y => by simp
  have hr5 : Gr pnn 3 vr' σ5 (X ++ [a]) := hr'.keep fun i bl hi hbl => by
    rw [hb'] at hi
    have := Option.some.inj hi
    exact hk5 i bl (nu i (by omega)) (push_old hbl)
  have l5 : σ.length + 2 < σ5.length := (List.getElem?_eq_some_iff.1 k2'').1
  have kp : ∀ q : Nat, q = σ.length + 2 → ∀ x : StB, (∀ i bl, blkOf vr ≠ some i → blkOf vu ≠ some i → σ[i]? = some bl → (σ5.set q x)[i]? = some bl) := fun q hq x i bl h1 h2 h3 => by
    have hi := g0 h3
    rw [List.getElem?_set_ne (by omega)]
    exact hk5 i bl h2 (push_old (hk i bl h1 (push_old (push_old (push_old (push_old h3))))))
  have fin : ∀ q : Nat, q = σ.length + 2 → ∀ x : StB, Gr pnn 3 vr' (σ5.set q x) (X ++ [a]) ∧ Gr pnn 3 vu' (σ5.set q x) (Y ++ [b]) ∧ (∀ j, blkOf vr' = some j → blkOf vu' ≠ some j) ∧ σ.length ≤ (σ5.set q x).length ∧
      (∀ i bl, blkOf vr ≠ some i → blkOf vu ≠ some i → σ[i]? = some bl → (σ5.set q x)[i]? = some bl) ∧ (∀ i, i < σ.length → blkOf vr' ≠ some i ∧ blkOf vu' ≠ some i) := fun q hq x => by
    refine ⟨hr5.keep fun i bl hi hbl => ?_, hu'.keep fun i bl hi hbl => ?_, fun j h1 h2 => ?_, by rw [List.length_set]; omega, kp q hq x, fun i hi => ⟨fun e => ?_, fun e => ?_⟩⟩
    · rw [hb'] at hi
      have := Option.some.inj hi
      rw [List.getElem?_set_ne (by omega)]; exact hbl
    · rw [hb5] at hi
      have := Option.some.inj hi
      rw [List.getElem?_set_ne (by omega)]; exact hbl
    · rw [hb'] at h1
      rw [hb5] at h2
      have := Option.some.inj h1
      have := Option.some.inj h2
      omega
    · rw [hb'] at e
      have := Option.some.inj e
      omega
    · rw [hb5] at e
      have := Option.some.inj e
      omega
  obtain ⟨j1, t1, -, e1⟩ := hr'.shape (by simp)
  obtain ⟨j2, t2, -, e2⟩ := hu'.shape (by simp)
  rcases e1 with rfl | rfl <;> rcases e2 with rfl | rfl
  all_goals
    refine ⟨_, rfl, ?_⟩
    rw [L2]
    refine ⟨⟨hA2 _ (by omega), hA2 _ (by omega), hA2 _ (by omega), hA2 _ (by omega), trivial⟩, ?_⟩
    refine ⟨_, _, k2'', ⟨rfl, by decide, rfl⟩, _, rfl, _, rfl, ?_⟩
    refine ⟨_, load_liv (List.getElem?_set_self l5) rfl rfl, ?_⟩
    obtain ⟨f1, f2, f3, f4, f5, f6⟩ := fin _ rfl _
    exact endm [] (by dsimp only; omega) ⟨_, _, rfl, f1, f2, f3, f4, f5, f6⟩
end Go.PI
