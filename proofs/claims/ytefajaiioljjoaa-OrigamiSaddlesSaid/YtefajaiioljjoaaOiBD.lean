/- Own work of the verifier: OgT OgU OgW. -/
import Derived.Test.YtefajaiioljjoaaOiBC
set_option linter.all false
set_option exponentiation.threshold 3000
set_option linter.deprecated false
/- THE SQUARES THAT ARE REACHED. -/
open Go.Proofs
namespace Go.PI
open IM
set_option maxRecDepth 10000
set_option maxHeartbeats 4000000
variable (S : FuncId → Option (List AV → Heap → Option (AV × Heap)))
def NL (l : List Nat) : List Int := l.map fun (x : Nat) => (x : Int)
theorem NL_len {l : List Nat} : (NL l).length = l.length := by unfold NL; rw [List.length_map]
theorem pIs_NL {l : List Nat} : PV.lst l.length (l.map pnn) = pIs (NL l) := by
  unfold pIs
  rw [NL_len]
  unfold NL
  rw [List.map_map]
  rfl
theorem NL_get {l : List Nat} {i x : Nat} (h : l[i]? = some x) : (NL l)[i]? = some (x : Int) := by unfold NL; rw [List.getElem?_map, h]; rfl
theorem fn104 : ctx.fn 104 = some c104 := by kernel_rfl
theorem reached_ct (hS : OldO S) {r u : List Int} {n s : Nat} {f f' g g' : Nat → Nat} (ho : IsO r u n f f' g g') (hs : s < n) :
    Ct (ctx.plus S) 104 [pO r u, pn s] 3000 fun w => ∃ k, (bfs f g s k).length ≤ k ∧ w = pIs (NL (bfs f g s k)) := by
  have hn := ho.le
  have hlen := fun i => bfs_len (s := s) ho.pr ho.pu hs i
  refine ctO_of Onum (hS 104 (by decide)) fn104 ?_
  refine ⟨by omega, ?_⟩
  refine callm (numberingFrom_cm S hS (x := s)) (by omega) ?_
  rintro _ σ0 ⟨j0, m0, v0, rfl, a1, a2, a3, a4, a5⟩
  refine ⟨fun q st => ∃ (i b j m : Nat) (v : PV) (σ : List StB) (T : List PV), st = ⟨T, σ, b⟩ ∧ Gt T 26 [(2, .optr 0 0), (5, .optr j 0), (6, pn i)] ∧ q = n - i ∧ i ≤ n ∧ b ≤ 10 + 24 * i ∧ Hid (σ[0]? = some (.live 24 [pIs r, pIs u]) ∧ j ≠ 0 ∧ m ≠ 0 ∧ blkOf v ≠ some 0 ∧ Num σ j m v (bfs f g s i)), ⟨_, ci ⟨0, _, j0, m0, v0, _, _, rfl, ⟨rfl, rfl, rfl, rfl, trivial⟩, rfl, Nat.zero_le _, by omega, ⟨a2 0 _ rfl, by simp at a3; omega, by simp at a4; omega, a5 0 (by simp), a1⟩⟩⟩, ?_⟩
  rintro _ st ⟨i, b, j, m, v, σ, T, rfl, hT, rfl, hi, hb, hh⟩
  obtain ⟨J, rfl⟩ := gt_open hT
  clear hT
  obtain ⟨c1, c2, c3, c4, c5⟩ := hh.h
  clear hh
  obtain ⟨jv, ty, hcv, hv⟩ := c5.gr.shape c5.ne
  have hliv := c5.liv
  have hL := hlen i
  rcases hv with hv | hv
  all_goals
    rw [hv] at hliv
    refine ⟨_, load_liv hliv rfl rfl, ?_⟩
    refine ⟨fun hlt => ?_, fun hge => ?_⟩
    · have hil : i < (bfs f g s i).length := by omega
      obtain ⟨x, hx⟩ : ∃ x, (bfs f g s i)[i]? = some x := ⟨_, List.getElem?_eq_getElem hil⟩
      have hxn := bfs_lt ho.pr ho.pu hs i x (List.mem_of_getElem? hx)
      refine ⟨_, load_c (contOf_live c1) rfl rfl, ?_⟩
      refine callm (around_cm S hS ho c5 (by omega) hx hxn) (by omega) ?_
      rintro _ σ2 ⟨v2, rfl, e1, e2⟩
      rw [← nxt_at hx] at e1
      refine ⟨⟨by omega, by omega⟩, ?_⟩
      exact ⟨_, by omega, ci ⟨i + 1, _, j, m, v2, _, _, rfl, ⟨rfl, rfl, rfl, rfl, trivial⟩, rfl, by omega, by omega, ⟨e2.keep 0 _ (by omega) (by omega) c4 c1, c2, c3, e2.blk 0 ((List.getElem?_eq_some_iff.1 c1).1) c4, e1⟩⟩⟩
    · refine ⟨_, load_liv hliv rfl rfl, ?_⟩
      obtain ⟨σ', hf⟩ := c5.gr.fz
      rw [hv] at hf
      exact endf hf ⟨i, by omega, pIs_NL⟩
end Go.PI
/- WHETHER AN ORIGAMI IS CONNECTED, of the program. -/
open Go.Proofs
namespace Go.PI
open IM
set_option maxRecDepth 10000
set_option maxHeartbeats 4000000
variable (S : FuncId → Option (List AV → Heap → Option (AV × Heap)))
theorem fn114 : ctx.fn 114 = some c114 := by kernel_rfl
theorem isSplit_ct (hS : OldO S) {r u : List Int} {n : Nat} {f f' g g' : Nat → Nat} (ho : IsO r u n f f' g g') :
    Ct (ctx.plus S) 114 [pO r u] 3100 fun w => (Conn n f g ∧ w = .bool false) ∨ (¬ Conn n f g ∧ w = .bool true) := by
  have hn := ho.le
  have hrl := ho.l1.1
  refine ct_of (hS 114 (by decide)) fn114 ?_
  refine ⟨by omega, ?_⟩
  refine ⟨by kernel_rfl, ?_⟩
  refine ⟨_, rfl, rfl, ?_⟩
  refine callq rfl (reached_ct S hS ho ho.pos) (by omega) ?_
  rintro _ ⟨k, hk, rfl⟩
  have h1 := conn_len ho.pr ho.pu ho.pos hk
  have h2 := bfs_len ho.pr ho.pu ho.pos k
  have h3 : (NL (bfs f g 0 k)).length = (bfs f g 0 k).length := NL_len
  refine ⟨_, rfl, rfl, ?_⟩
  refine ⟨fun h => ?_, fun h => ?_⟩
  · have h : ((NL (bfs f g 0 k)).length : Int) < (r.length : Int) := h
    exact endq rfl (.inr ⟨fun hc => by have := h1.2 hc; omega, rfl⟩)
  · have h : (r.length : Int) ≤ ((NL (bfs f g 0 k)).length : Int) := h
    exact endq rfl (.inl ⟨h1.1 (by omega), rfl⟩)
theorem fn137 : ctx.fn 137 = some c137 := by kernel_rfl
theorem indexSplit_ct (hS : OldO S) {r u : List Int} {n : Nat} {f f' g g' : Nat → Nat} (ho : IsO r u n f f' g g') :
    Ct (ctx.plus S) 137 [pOs [(r, u)], .fn 114] 3200 fun w => (Conn n f g ∧ w = pn (-1)) ∨ (¬ Conn n f g ∧ w = pn 0) := by
  refine ct_of (hS 137 (by decide)) fn137 ?_
  refine ⟨fun m s => ∃ (i b : Nat) (T : List PV), s = ⟨T, [], b⟩ ∧ Gt T 19 [(0, pOs [(r, u)]), (1, .fn 114), (7, pn 1), (8, pn i)] ∧ m = 1 - i ∧ i ≤ 1 ∧ b ≤ 3100 * i ∧ Hid (0 < i → Conn n f g), ⟨_, ci ⟨0, 0, _, rfl, ⟨rfl, rfl, rfl, rfl, rfl, trivial⟩, rfl, Nat.zero_le _, Nat.le_refl _, ⟨fun h => by omega⟩⟩⟩, ?_⟩
  rintro _ s ⟨i, b, T, rfl, hT, rfl, hi, hb, hh⟩
  obtain ⟨J, rfl⟩ := gt_open hT
  clear hT
  refine ⟨fun hlt => ?_, fun hge => ?_⟩
  · have hi0 : i = 0 := by omega
    subst hi0
    refine ⟨⟨⟨by omega, by omega⟩, by show 0 * 2 ≤ _; omega⟩, ?_⟩
    refine ⟨pO r u, rfl, ?_⟩
    refine callq rfl (isSplit_ct S hS ho) (by omega) ?_
    rintro _ (⟨hc, rfl⟩ | ⟨hc, rfl⟩)
    · refine ⟨⟨by omega, by omega⟩, ?_⟩
      exact ⟨_, by omega, ci ⟨1, _, _, rfl, ⟨rfl, rfl, rfl, rfl, rfl, trivial⟩, rfl, by omega, by omega, ⟨fun _ => hc⟩⟩⟩
    · exact endq rfl (.inr ⟨hc, rfl⟩)
  · exact endq rfl (.inl ⟨hh.h (by omega), rfl⟩)
theorem fn113 : ctx.fn 113 = some c113 := by kernel_rfl
theorem containsSplit_ct (hS : OldO S) {r u : List Int} {n : Nat} {f f' g g' : Nat → Nat} (ho : IsO r u n f f' g g') :
    Ct (ctx.plus S) 113 [pOs [(r, u)], .fn 114] 3200 fun w => (Conn n f g ∧ w = .bool false) ∨ (¬ Conn n f g ∧ w = .bool true) := by
  refine ct_of (hS 113 (by decide)) fn113 ?_
  refine callq rfl (indexSplit_ct S hS ho) (by omega) ?_
  rintro _ (⟨hc, rfl⟩ | ⟨hc, rfl⟩)
  · exact ⟨fun h => by omega, fun _ => endq rfl (.inl ⟨hc, rfl⟩)⟩
  · exact ⟨fun _ => endq rfl (.inr ⟨hc, rfl⟩), fun h => by omega⟩
theorem fn72 : ctx.fn 72 = some c72 := by kernel_rfl
theorem checkConn_bad (hS : OldO S) {r u : List Int} (l1 : r.length ≤ 1000000) (l2 : u.length ≤ 1000000) (h : chkO r u ≠ 0) : Ct (ctx.plus S) 72 [pOs [(r, u)]] 3300 fun v => v = pn (chkO r u) := by
  refine ct_of (hS 72 (by decide)) fn72 ?_
  refine callq rfl (check1_ct S hS l1 l2) (by omega) ?_
  rintro _ rfl
  refine ⟨fun h0 => absurd h0 h, fun _ => ?_⟩
  exact endq rfl rfl
open Classical in
noncomputable def cc (n : Nat) (f g : Nat → Nat) : Int := if Conn n f g then 0 else 16
theorem checkConn_ok (hS : OldO S) {r u : List Int} {n : Nat} {f f' g g' : Nat → Nat} (ho : IsO r u n f f' g g') : Ct (ctx.plus S) 72 [pOs [(r, u)]] 3300 fun v => v = pn (cc n f g) := by
  have hl := ho.l1
  have hn := ho.le
  have h0 := ho.chk
  refine ct_of (hS 72 (by decide)) fn72 ?_
  refine callq rfl (check1_ct S hS (by omega) (by omega)) (by omega) ?_
  rintro _ rfl
  rw [h0]
  refine ⟨fun _ => ?_, fun h => absurd rfl h⟩
  refine callq rfl (containsSplit_ct S hS ho) (by omega) ?_
  rintro _ (⟨hc, rfl⟩ | ⟨hc, rfl⟩)
  · exact endq rfl (by unfold cc; rw [if_pos hc])
  · exact endq rfl (by unfold cc; rw [if_neg hc])
end Go.PI
/- COMPONENTS of the reference. -/
open Go.Proofs
namespace Go.PI
open IM
set_option maxRecDepth 10000
set_option maxHeartbeats 4000000
variable (S : FuncId → Option (List AV → Heap → Option (AV × Heap)))
structure FlI (n : Nat) (f g : Nat → Nat) (s i j : Nat) (fl : List Bool) : Prop where
  len : fl.length = n
  snd : ∀ y, fl[y]? = some true → Rch f g s y
  rnd : ∀ y, y < n → RchK f g s i y → fl[y]? = some true
  nxt : ∀ z, z < j → RchK f g s i z → fl[f z]? = some true ∧ fl[g z]? = some true
theorem set_true {fl : List Bool} {q y : Nat} (h : fl[y]? = some true) : (fl.set q true)[y]? = some true := by
  by_cases e : q = y
  · subst e; rw [List.getElem?_set_self (List.getElem?_eq_some_iff.1 h).1]
  · rw [List.getElem?_set_ne e]; exact h
theorem set_true_inv {fl : List Bool} {q y : Nat} (h : (fl.set q true)[y]? = some true) : y = q ∨ fl[y]? = some true := by
  by_cases e : q = y
  · exact .inl e.symm
  · rw [List.getElem?_set_ne e] at h; exact .inr h
section
variable {n s i j : Nat} {f f' g g' : Nat → Nat} {fl : List Bool}
theorem fl_mark (h : FlI n f g s i j fl) (hj : fl[j]? = some true) (hf : f j < n) (hg : g j < n) : FlI n f g s i (j + 1) ((fl.set (f j) true).set (g j) true) := by
  have hr := h.snd j hj
  have hl := h.len
  refine ⟨by simp [hl], fun y hy => ?_, fun y hy hk => set_true (set_true (h.rnd y hy hk)), fun z hz hk => ?_⟩
  · rcases set_true_inv hy with rfl | hy
    · exact .g hr
    · rcases set_true_inv hy with rfl | hy
      · exact .f hr
      · exact h.snd y hy
  · by_cases e : z = j
    · subst e
      exact ⟨set_true (by rw [List.getElem?_set_self (by omega)]), by rw [List.getElem?_set_self (by rw [List.length_set]; omega)]⟩
    · have := h.nxt z (by omega) hk
      exact ⟨set_true (set_true this.1), set_true (set_true this.2)⟩
theorem fl_skip (h : FlI n f g s i j fl) (hj : fl[j]? = some false) : FlI n f g s i (j + 1) fl := by
  refine ⟨h.len, h.snd, h.rnd, fun z hz hk => ?_⟩
  by_cases e : z = j
  · subst e
    have := h.rnd z (by have := (List.getElem?_eq_some_iff.1 hj).1; have := h.len; omega) hk
    rw [hj] at this; cases this
  · exact h.nxt z (by omega) hk
theorem fl_next (pf : IsP n f f') (pg : IsP n g g') (hs : s < n) (h : FlI n f g s i n fl) : FlI n f g s (i + 1) 0 fl := by
  refine ⟨h.len, h.snd, fun y hy hk => ?_, fun z hz => by omega⟩
  rcases hk with hk | ⟨z, hk, rfl | rfl⟩
  · exact h.rnd y hy hk
  · exact (h.nxt z (rch_lt pf pg hs (rchK_rch hk)) hk).1
  · exact (h.nxt z (rch_lt pf pg hs (rchK_rch hk)) hk).2
theorem fl_zero (hs : s < n) : FlI n f g s 0 0 ((List.replicate n false).set s true) := by
  refine ⟨by simp, fun y hy => ?_, fun y hy hk => ?_, fun z hz => by omega⟩
  · rcases set_true_inv hy with rfl | hy
    · exact .refl
    · rw [List.getElem?_replicate] at hy
      split at hy <;> simp at hy
  · rw [show y = s from hk, List.getElem?_set_self (by simpa using hs)]
theorem fl_done (pf : IsP n f f') (pg : IsP n g g') (hs : s < n) (h : FlI n f g s n j fl) (y : Nat) : fl[y]? = some true ↔ Rch f g s y := by
  refine ⟨h.snd y, fun hr => ?_⟩
  have hm := bfs_all (bfs_len pf pg hs n) hr
  obtain ⟨p, hp⟩ := List.getElem?_of_mem hm
  have hd := bfs_dist n p y hp
  have hpl := (List.getElem?_eq_some_iff.1 hp).1
  have hbl := bfs_len pf pg hs n
  have := rchK_mono (n - p) hd
  rw [show p + (n - p) = n by omega] at this
  exact h.rnd y (rch_lt pf pg hs hr) this
end
open Classical in
noncomputable def compTo (f g : Nat → Nat) (s k : Nat) : List Nat := (List.range k).filter fun y => decide (Rch f g s y)
theorem compTo_yes {f g : Nat → Nat} {s k : Nat} (h : Rch f g s k) : compTo f g s (k + 1) = compTo f g s k ++ [k] := by
  unfold compTo
  rw [List.range_succ, List.filter_append, List.filter_cons_of_pos (by simpa using h)]
  rfl
theorem compTo_no {f g : Nat → Nat} {s k : Nat} (h : ¬ Rch f g s k) : compTo f g s (k + 1) = compTo f g s k := by
  unfold compTo
  rw [List.range_succ, List.filter_append, List.filter_cons_of_neg (by simpa using h)]
  simp
theorem compTo_len {f g : Nat → Nat} {s k : Nat} : (compTo f g s k).length ≤ k := by
  have := List.length_filter_le (fun y => @decide (Rch f g s y) (Classical.propDecidable _)) (List.range k)
  rw [List.length_range] at this
  exact this
theorem fn68 : ctx.fn 68 = some c68 := by kernel_rfl
theorem component_ct (hS : OldO S) {r u : List Int} {n s : Nat} {f f' g g' : Nat → Nat} (ho : IsO r u n f f' g g') (hs : s < n) :
    Ct (ctx.plus S) 68 [pO r u, pn s] 5000 fun w => w = pIs (NL (compTo f g s n)) := by
  have hn := ho.le
  have hrl := ho.l1.1
  subst hrl
  have gr : ∀ i, i < r.length → r[i]? = some (f i : Int) := fun i hi => by rw [ho.hr, PL_get hi]
  have gu : ∀ i, i < r.length → u[i]? = some (g i : Int) := fun i hi => by rw [ho.hu, PL_get hi]
  have hul := ho.l1.2
  refine ct_of (hS 68 (by decide)) fn68 ?_
  refine ⟨by omega, ?_⟩
  refine ⟨_, rfl, ?_⟩
  refine callq rfl (size_ct S hS) (by omega) ?_
  rintro _ rfl
  refine ⟨by omega, ⟨by omega, by omega, by omega⟩, _, flg_zero, ?_⟩
  refine ⟨⟨by omega, by omega⟩, ?_⟩
  refine ⟨_, _, rfl, ⟨rfl, by rw [List.length_map, List.length_replicate]; show 0 + s * 1 + 1 ≤ _; omega, rfl⟩, _, flg_put (by show 0 + s * 1 = s; omega) (by rw [List.length_replicate]; omega), _, rfl, ?_⟩
  refine ⟨fun m st => ∃ (i b : Nat) (fl : List Bool) (T : List PV), st = ⟨T, [.live 24 [pIs r, pIs u], .live 4 (fl.map PV.bool)], b⟩ ∧ Gt T 61 [(2, .optr 0 0), (5, .own 1 0 r.length r.length 1), (6, pn i)] ∧ m = r.length - i ∧ i ≤ r.length ∧ b ≤ 4 + 62 * i ∧ Hid (FlI r.length f g s i 0 fl), ⟨_, ci ⟨0, _, _, _, rfl, ⟨rfl, rfl, rfl, rfl, trivial⟩, rfl, Nat.zero_le _, by omega, ⟨fl_zero hs⟩⟩⟩, ?_⟩
  rintro _ st ⟨i, b, fl, T, rfl, hT, rfl, hi, hb, hh⟩
  obtain ⟨J, rfl⟩ := gt_open hT
  clear hT
  refine ⟨_, rfl, ?_⟩
  refine callq rfl (size_ct S hS) (by omega) ?_
  rintro _ rfl
  refine ⟨fun hlt => ?_, fun hge => ?_⟩
  · refine ⟨fun m st => ∃ (j b' : Nat) (fl : List Bool) (T : List PV), st = ⟨T, [.live 24 [pIs r, pIs u], .live 4 (fl.map PV.bool)], b'⟩ ∧ Gt T 61 [(2, .optr 0 0), (5, .own 1 0 r.length r.length 1), (6, pn i), (7, pn j)] ∧ m = r.length - j ∧ j ≤ r.length ∧ b' ≤ 5 + 62 * i + j ∧ Hid (FlI r.length f g s i j fl), ⟨_, ci ⟨0, _, _, _, rfl, ⟨rfl, rfl, rfl, rfl, rfl, trivial⟩, rfl, Nat.zero_le _, by omega, hh⟩⟩, ?_⟩
    clear hh fl
    rintro _ st ⟨j, b', fl, T, rfl, hT, rfl, hj, hb', hh⟩
    obtain ⟨J, rfl⟩ := gt_open hT
    clear hT
    have hfl := hh.h.len
    refine ⟨_, rfl, ?_⟩
    refine callq rfl (size_ct S hS) (by omega) ?_
    rintro _ rfl
    refine ⟨fun hlt2 => ?_, fun hge2 => ?_⟩
    · have hjn : j < r.length := by omega
      have c1 := ho.pr.lt j hjn
      have c2 := ho.pu.lt j hjn
      obtain ⟨q, hq⟩ : ∃ q, fl[j]? = some q := ⟨fl[j]'(by omega), List.getElem?_eq_getElem _⟩
      refine ⟨⟨by omega, by omega⟩, ?_⟩
      refine ⟨_, load_k rfl rfl rfl (at_map hq) (by show 0 + _ * 1 = j; omega), ?_⟩
      cases q with
      | true =>
        refine ⟨by kernel_rfl, ?_⟩
        refine ⟨_, rfl, rfl, ?_⟩
        refine ⟨⟨⟨by omega, by omega⟩, len_map_le (by omega)⟩, ?_⟩
        refine ⟨_, ld (at_map (gr j hjn)) (by show _ * 1 = j; omega), rfl, ?_⟩
        refine ⟨_, rfl, rfl, ?_⟩
        refine ⟨⟨⟨by omega, by omega⟩, len_map_le (by omega)⟩, ?_⟩
        refine ⟨_, ld (at_map (gu j hjn)) (by show _ * 1 = j; omega), rfl, ?_⟩
        refine ⟨⟨by omega, by omega⟩, ?_⟩
        refine ⟨_, _, rfl, ⟨rfl, by rw [List.length_map]; show 0 + f j * 1 + 1 ≤ _; omega, rfl⟩, _, flg_put (by show 0 + f j * 1 = f j; omega) (by omega), _, rfl, ?_⟩
        refine ⟨⟨by omega, by omega⟩, ?_⟩
        refine ⟨_, _, rfl, ⟨rfl, by rw [List.length_map, List.length_set]; show 0 + g j * 1 + 1 ≤ _; omega, rfl⟩, _, flg_put (by show 0 + g j * 1 = g j; omega) (by rw [List.length_set]; omega), _, rfl, ?_⟩
        refine ⟨⟨by omega, by omega⟩, ?_⟩
        exact ⟨_, by omega, ci ⟨j + 1, _, _, _, rfl, ⟨rfl, rfl, rfl, rfl, rfl, trivial⟩, rfl, by omega, by omega, ⟨fl_mark hh.h hq c1 c2⟩⟩⟩
      | false =>
        refine ⟨⟨by omega, by omega⟩, ?_⟩
        exact ⟨_, by omega, ci ⟨j + 1, _, fl, _, rfl, ⟨rfl, rfl, rfl, rfl, rfl, trivial⟩, rfl, by omega, by omega, ⟨fl_skip hh.h hq⟩⟩⟩
    · have hjn : j = r.length := by omega
      subst hjn
      refine ⟨⟨by omega, by omega⟩, ?_⟩
      exact ⟨_, by omega, ci ⟨i + 1, _, fl, _, rfl, ⟨rfl, rfl, rfl, rfl, trivial⟩, rfl, by omega, by omega, ⟨fl_next ho.pr ho.pu hs hh.h⟩⟩⟩
  · have hin : i = r.length := by omega
    subst hin
    have hdone := fl_done ho.pr ho.pu hs hh.h
    have hfl := hh.h.len
    refine ⟨fun m st => ∃ (k b' : Nat) (v : PV) (σ : List StB) (T : List PV), st = ⟨T, σ, b'⟩ ∧ Gt T 61 [(2, .optr 0 0), (5, .own 1 0 r.length r.length 1), (8, v), (9, pn k)] ∧ m = r.length - k ∧ k ≤ r.length ∧ b' ≤ 70 + 62 * r.length + 3 * k ∧ Hid (σ[0]? = some (.live 24 [pIs r, pIs u]) ∧ σ[1]? = some (.live 4 (fl.map PV.bool)) ∧ blkOf v ≠ some 0 ∧ blkOf v ≠ some 1 ∧ Gr pnn 3 v σ (compTo f g s k)), ⟨_, ci ⟨0, _, .nils, _, _, rfl, ⟨rfl, rfl, rfl, rfl, rfl, trivial⟩, rfl, Nat.zero_le _, by omega, ⟨rfl, rfl, (fun h => by cases h), (fun h => by cases h), .nil⟩⟩⟩, ?_⟩
    rintro _ st ⟨k, b', v, σ, T, rfl, hT, rfl, hk, hb', hh2⟩
    obtain ⟨J, rfl⟩ := gt_open hT
    clear hT
    obtain ⟨d1, d2, d3, d4, d5⟩ := hh2.h
    refine ⟨_, load_c (contOf_live d1) rfl rfl, ?_⟩
    refine callq rfl (size_ct S hS (r := r) (u := u)) (by omega) ?_
    rintro _ rfl
    refine ⟨fun hlt2 => ?_, fun hge2 => ?_⟩
    · have hki : k < r.length := by omega
      obtain ⟨q, hq⟩ : ∃ q, fl[k]? = some q := ⟨fl[k]'(by omega), List.getElem?_eq_getElem _⟩
      refine ⟨⟨by omega, by omega⟩, ?_⟩
      refine ⟨_, load_k rfl rfl (contOf_live d2) (at_map hq) (by show 0 + _ * 1 = k; omega), ?_⟩
      cases q with
      | true =>
        have hr := (hdone k).1 hq
        refine ⟨by omega, part1 fzI ⟨[pnn k], rfl, ?_⟩⟩
        have hcl : (compTo f g s k).length ≤ k := compTo_len
        have l0 := (List.getElem?_eq_some_iff.1 d1).1
        have l1 := (List.getElem?_eq_some_iff.1 d2).1
        refine appG (f := pnn) (e := 3) (y := k) d5.push push_cont rfl rfl rfl rfl (by kernel_rfl) rfl rfl (by omega) (by omega) fun v' σ' hv' hkp hbv => ?_
        have hne : ∀ q, q < σ.length → blkOf v' ≠ some q := fun q hq e => by
          rw [hbv] at e; have := Option.some.inj e; rw [List.length_append, List.length_singleton] at this; omega
        refine ⟨⟨by omega, by omega⟩, ?_⟩
        exact ⟨_, by omega, ci ⟨k + 1, _, v', σ', _, rfl, ⟨rfl, rfl, rfl, rfl, rfl, trivial⟩, rfl, by omega, by omega, ⟨hkp 0 _ d3 (push_old d1), hkp 1 _ d4 (push_old d2), hne 0 l0, hne 1 l1, by rw [compTo_yes hr]; exact hv'⟩⟩⟩
      | false =>
        have hr : ¬ Rch f g s k := fun h => by have := (hdone k).2 h; rw [hq] at this; cases this
        refine ⟨⟨by omega, by omega⟩, ?_⟩
        exact ⟨_, by omega, ci ⟨k + 1, _, v, σ, _, rfl, ⟨rfl, rfl, rfl, rfl, rfl, trivial⟩, rfl, by omega, by omega, ⟨d1, d2, d3, d4, by rw [compTo_no hr]; exact d5⟩⟩⟩
    · have hki : k = r.length := by omega
      obtain ⟨σ', hf⟩ := d5.fz
      exact endf hf (by rw [hki]; exact pIs_NL)
end Go.PI
