/- Own work of the verifier: OrY OrZ OrAa OrAb OrAc OrAd OrAe. -/
import Derived.Test.YtoppgcfijjndfaaGreatDoorOwAY
set_option linter.all false
set_option exponentiation.threshold 3000
set_option linter.deprecated false
/- THE ORDER in which squares are reached, of the reference. -/
open Go.Proofs
namespace Go.PI
open IM
set_option maxRecDepth 10000
set_option maxHeartbeats 4000000
variable (S : FuncId → Option (List AV → Heap → Option (AV × Heap)))
theorem Gr.cast {α : Type} {f : α → PV} {e : TypeId} {v : PV} {σ : List StB} {Xs Ys : List α} (h : Gr f e v σ Xs) (k : Ys = Xs) : Gr f e v σ Ys := k ▸ h
theorem NL_mem {l : List Nat} {y : Nat} : (y : Int) ∈ NL l ↔ y ∈ l := by
  unfold NL
  rw [List.mem_map]
  constructor
  · rintro ⟨z, hz, e⟩
    have : z = y := by omega
    rwa [this] at hz
  · exact fun h => ⟨y, h, rfl⟩
theorem idx_in {l : List Nat} {y : Nat} (h : y ∈ l) : 0 ≤ idx (NL l) y := by unfold idx; rw [if_pos (NL_mem.2 h)]; omega
theorem idx_out {l : List Nat} {y : Nat} (h : y ∉ l) : idx (NL l) y = -1 := by unfold idx; rw [if_neg fun e => h (NL_mem.1 e)]
theorem at_cm (hS : OldO S) {σ : List StB} {v : PV} {xs : List Nat} {y : Nat} (hg : Gr pnn 3 v σ xs) (hne : xs ≠ []) (hl : xs.length ≤ 1000) : Cm (ctx.plus S) 109 [v, pn y] σ 0 fun w σ' => w = pn (idx (NL xs) y) ∧ σ' = σ := by
  refine cm_of Opn.no (hS 109 (by decide)) fn109 fun c k0 hc => ?_
  obtain ⟨jv, ty, hcv, hv⟩ := hg.shape hne
  have hnl : (NL xs).length = xs.length := NL_len
  rcases hv with rfl | rfl
  · refine ⟨fun m s => ∃ (i : Nat) (T : List PV), s = ⟨T, σ, k0⟩ ∧ Gt T 19 [(0, .own jv 0 xs.length xs.length 1), (1, pn y), (5, pn i)] ∧ m = xs.length - i ∧ i ≤ xs.length ∧ Hid (NotB (NL xs) y i), ⟨_, ci ⟨0, _, rfl, ⟨rfl, rfl, rfl, rfl, trivial⟩, rfl, Nat.zero_le _, ⟨fun j hj => by omega⟩⟩⟩, ?_⟩
    rintro _ s ⟨i, T, rfl, hT, rfl, hi, hn⟩
    obtain ⟨J, rfl⟩ := gt_open hT
    clear hT
    refine ⟨fun hlt => ?_, fun hge => ?_⟩
    · have hil : i < xs.length := by omega
      obtain ⟨e, he⟩ : ∃ e, xs[i]? = some e := ⟨_, List.getElem?_eq_getElem hil⟩
      have he2 := NL_get he
      refine ⟨⟨by omega, by omega⟩, ?_⟩
      refine ⟨_, load_k rfl rfl hcv (at_map he) (by show 0 + _ * 1 = i; omega), ?_⟩
      refine ⟨fun heq => ?_, fun hne => ?_⟩
      · exact endm [] (by dsimp only; omega) ⟨by rw [idx_at hn.h (by rw [he2]; congr 1)]; rfl, rfl⟩
      · refine ⟨⟨by omega, by omega⟩, ?_⟩
        exact ⟨_, by omega, ci ⟨i + 1, _, rfl, ⟨rfl, rfl, rfl, rfl, trivial⟩, rfl, by omega, ⟨notB_next hn.h he2 hne⟩⟩⟩
    · exact endm [] (by dsimp only; omega) ⟨by unfold idx; rw [if_neg (notB_end hn.h (by omega))]; rfl, rfl⟩
  · refine ⟨fun m s => ∃ (i : Nat) (T : List PV), s = ⟨T, σ, k0⟩ ∧ Gt T 19 [(0, .ownu jv xs.length 1), (1, pn y), (5, pn i)] ∧ m = xs.length - i ∧ i ≤ xs.length ∧ Hid (NotB (NL xs) y i), ⟨_, ci ⟨0, _, rfl, ⟨rfl, rfl, rfl, rfl, trivial⟩, rfl, Nat.zero_le _, ⟨fun j hj => by omega⟩⟩⟩, ?_⟩
    rintro _ s ⟨i, T, rfl, hT, rfl, hi, hn⟩
    obtain ⟨J, rfl⟩ := gt_open hT
    clear hT
    refine ⟨fun hlt => ?_, fun hge => ?_⟩
    · have hil : i < xs.length := by omega
      obtain ⟨e, he⟩ : ∃ e, xs[i]? = some e := ⟨_, List.getElem?_eq_getElem hil⟩
      have he2 := NL_get he
      refine ⟨⟨by omega, by omega⟩, ?_⟩
      refine ⟨_, load_k rfl rfl hcv (at_map he) (by show 0 + _ * 1 = i; omega), ?_⟩
      refine ⟨fun heq => ?_, fun hne => ?_⟩
      · exact endm [] (by dsimp only; omega) ⟨by rw [idx_at hn.h (by rw [he2]; congr 1)]; rfl, rfl⟩
      · refine ⟨⟨by omega, by omega⟩, ?_⟩
        exact ⟨_, by omega, ci ⟨i + 1, _, rfl, ⟨rfl, rfl, rfl, rfl, trivial⟩, rfl, by omega, ⟨notB_next hn.h he2 hne⟩⟩⟩
    · exact endm [] (by dsimp only; omega) ⟨by unfold idx; rw [if_neg (notB_end hn.h (by omega))]; rfl, rfl⟩
theorem bfs_PL {n s : Nat} {f f' g g' : Nat → Nat} (pf : IsP n f f') (pg : IsP n g g') (h0 : 0 < n) (hs : s < n) (hc : Conn n f g) : NL (bfs f g s n) = PL n (es f g n s) := by
  refine PL_ext (by rw [NL_len]; exact (bfs_full pf pg h0 hs hc).1) fun k hk => NL_get (es_get pf pg h0 hs hc hk)
theorem fn145 : ctx.fn 145 = some c145 := by kernel_rfl
theorem from_ct (hS : OldO S) {r u : List Int} {n s : Nat} {f f' g g' : Nat → Nat} (ho : IsO r u n f f' g g') (hs : s < n) (hc : Conn n f g) :
    Ct (ctx.plus S) 145 [pO r u, pn s] 1000 fun w => w = pIs (PL n (ei f g n s)) := by
  have hn := ho.le
  have hlen := fun i => bfs_len (s := s) ho.pr ho.pu hs i
  have hl := ho.l1
  have gr : ∀ i, i < n → r[i]? = some (f i : Int) := fun i hi => by rw [ho.hr, PL_get hi]
  have gu : ∀ i, i < n → u[i]? = some (g i : Int) := fun i hi => by rw [ho.hu, PL_get hi]
  refine ct_of (hS 145 (by decide)) fn145 ?_
  refine ⟨by omega, ?_⟩
  refine ⟨by omega, part1 fzI ⟨[pnn s], rfl, ?_⟩⟩
  refine ⟨fun q st => ∃ (i b : Nat) (v : PV) (σ : List StB) (T : List PV), st = ⟨T, σ, b⟩ ∧ Gt T 51 [(2, .optr 0 0), (5, v), (6, pn i)] ∧ q = n - i ∧ i ≤ n ∧ b ≤ 10 + 8 * i ∧ Hid (σ[0]? = some (.live 45 [pIs r, pIs u]) ∧ blkOf v ≠ some 0 ∧ Gr pnn 3 v σ (bfs f g s i)), ⟨_, ci ⟨0, _, _, _, _, rfl, ⟨rfl, rfl, rfl, rfl, trivial⟩, rfl, Nat.zero_le _, by omega, ⟨rfl, (fun h => by cases h), .inr (.inl ⟨1, 3, rfl, rfl⟩)⟩⟩⟩, ?_⟩
  rintro _ st ⟨i, b, v, σ, T, rfl, hT, rfl, hi, hb, hh⟩
  obtain ⟨J, rfl⟩ := gt_open hT
  clear hT
  obtain ⟨d1, d3, d5⟩ := hh.h
  clear hh
  have l0 := (List.getElem?_eq_some_iff.1 d1).1
  have hL := hlen i
  have hL2 := hlen (i + 1)
  have hbne : bfs f g s i ≠ [] := fun e => by
    have := bfs_mem (f := f) (g := g) (s := s) (i := 0) (k := i) (y := s) (by simp [bfs])
    rw [Nat.zero_add, e] at this
    simp at this
  have hsh := d5.shape hbne
  obtain ⟨jv, ty, hcv, hv⟩ := hsh
  rcases hv with rfl | rfl
  all_goals
    refine ⟨fun hlt => ?_, fun hge => ?_⟩
    · have hil : i < (bfs f g s i).length := by omega
      obtain ⟨x, hx⟩ : ∃ x, (bfs f g s i)[i]? = some x := ⟨_, List.getElem?_eq_getElem hil⟩
      have hxn := bfs_lt ho.pr ho.pu hs i x (List.mem_of_getElem? hx)
      have c1 := ho.pr.lt x hxn
      have c2 := ho.pu.lt x hxn
      have hnx : bfs f g s (i + 1) = addL (addL (bfs f g s i) (f x)) (g x) := nxt_at hx
      have hxa : ∀ a, (addL (bfs f g s i) a)[i]? = some x := fun a => by
        obtain ⟨t, ht⟩ := addL_pre (xs := bfs f g s i) (x := a)
        rw [← ht, List.getElem?_append_left hil]; exact hx
      have hal : (addL (bfs f g s i) (f x)).length ≤ (bfs f g s i).length + 1 := addL_len
      refine ⟨by kernel_rfl, ?_⟩
      refine ⟨_, load_c (contOf_live d1) rfl rfl, rfl, ?_⟩
      refine ⟨⟨by omega, by omega⟩, ?_⟩
      refine ⟨_, load_k rfl rfl hcv (at_map hx) (by show 0 + _ * 1 = i; omega), rfl, ?_⟩
      refine ⟨⟨⟨by omega, by omega⟩, len_map_le (by omega)⟩, ?_⟩
      refine ⟨_, ld (at_map (gr x hxn)) (by show _ * 1 = x; omega), rfl, ?_⟩
      refine callm (at_cm S hS d5 hbne (by omega)) (by omega) ?_
      rintro _ _ ⟨rfl, rfl⟩
      by_cases hm : f x ∈ bfs f g s i
      · have h1 := idx_in hm
        refine ⟨fun h => absurd h (by omega), fun _ => ?_⟩
        have g1 := d5.cast (addL_in hm)
        have e1 := d1
        have e3 := d3
        have hcv1 := hcv
        have hxx := hx
        have hne1 : addL (bfs f g s i) (f x) ≠ [] := fun e => by
          have := hxa (f x); rw [e] at this; simp at this
        have hxl := (List.getElem?_eq_some_iff.1 (hxa (f x))).1
        refine ⟨by kernel_rfl, ?_⟩
        refine ⟨_, load_c (contOf_live d1) rfl rfl, rfl, ?_⟩
        refine ⟨⟨by omega, by omega⟩, ?_⟩
        refine ⟨_, load_k rfl rfl hcv (at_map (hx)) (by show 0 + _ * 1 = i; omega), rfl, ?_⟩
        refine ⟨⟨⟨by omega, by omega⟩, len_map_le (by omega)⟩, ?_⟩
        refine ⟨_, ld (at_map (gu x hxn)) (by show _ * 1 = x; omega), rfl, ?_⟩
        refine callm (at_cm S hS g1 hne1 (by omega)) (by omega) ?_
        rintro _ _ ⟨rfl, rfl⟩
        by_cases hm2 : g x ∈ addL (bfs f g s i) (f x)
        · have h2 := idx_in hm2
          refine ⟨fun h => absurd h (by omega), fun _ => ?_⟩
          refine ⟨⟨by omega, by omega⟩, ?_⟩
          exact ⟨_, by omega, ci ⟨i + 1, _, _, _, _, rfl, ⟨rfl, rfl, rfl, rfl, trivial⟩, rfl, by omega, by omega, ⟨d1, d3, (Gr.cast g1 (by rw [hnx, addL_in hm2]))⟩⟩⟩
        · have h2 := idx_out hm2
          refine ⟨fun _ => ?_, fun h => absurd h (by omega)⟩
          refine ⟨by omega, part1 fzI ⟨[pnn (g x)], rfl, ?_⟩⟩
          have lz := (List.getElem?_eq_some_iff.1 d1).1
          refine appG (f := pnn) (e := 3) (y := g x) (Gr.push g1) push_cont rfl rfl rfl rfl (by kernel_rfl) rfl rfl (by omega) (by omega) fun v2 σ2 hv2 hkp2 hbv2 => ?_
          have f3 : blkOf v2 ≠ some 0 := fun e => by
            rw [hbv2] at e; have := Option.some.inj e; rw [List.length_append, List.length_singleton] at this; omega
          refine ⟨⟨by omega, by omega⟩, ?_⟩
          exact ⟨_, by omega, ci ⟨i + 1, _, v2, σ2, _, rfl, ⟨rfl, rfl, rfl, rfl, trivial⟩, rfl, by omega, by omega, ⟨hkp2 0 _ d3 (push_old d1), f3, by rw [hnx, addL_out hm2]; exact hv2⟩⟩⟩
      · have h1 := idx_out hm
        refine ⟨fun _ => ?_, fun h => absurd h (by omega)⟩
        refine ⟨by omega, part1 fzI ⟨[pnn (f x)], rfl, ?_⟩⟩
        refine appG (f := pnn) (e := 3) (y := f x) d5.push push_cont rfl rfl rfl rfl (by kernel_rfl) rfl rfl (by omega) (by omega) fun v1 σ1 hv1 hkp hbv => ?_
        have e3 : blkOf v1 ≠ some 0 := fun e => by
          rw [hbv] at e; have := Option.some.inj e; rw [List.length_append, List.length_singleton] at this; omega
        have e1 := hkp 0 _ d3 (push_old d1)
        have g1 : Gr pnn 3 v1 σ1 (addL (bfs f g s i) (f x)) := by rw [addL_out hm]; exact hv1
        have hne1 : addL (bfs f g s i) (f x) ≠ [] := fun e => by
          have := hxa (f x); rw [e] at this; simp at this
        have hxl := (List.getElem?_eq_some_iff.1 (hxa (f x))).1
        obtain ⟨jw, tw, hcw, hw⟩ := g1.shape hne1
        rcases hw with rfl | rfl
        all_goals
          refine ⟨by kernel_rfl, ?_⟩
          refine ⟨_, load_c (contOf_live e1) rfl rfl, rfl, ?_⟩
          refine ⟨⟨by omega, by omega⟩, ?_⟩
          refine ⟨_, load_k rfl rfl hcw (at_map (hxa (f x))) (by show 0 + _ * 1 = i; omega), rfl, ?_⟩
          refine ⟨⟨⟨by omega, by omega⟩, len_map_le (by omega)⟩, ?_⟩
          refine ⟨_, ld (at_map (gu x hxn)) (by show _ * 1 = x; omega), rfl, ?_⟩
          refine callm (at_cm S hS g1 hne1 (by omega)) (by omega) ?_
          rintro _ _ ⟨rfl, rfl⟩
          by_cases hm2 : g x ∈ addL (bfs f g s i) (f x)
          · have h2 := idx_in hm2
            refine ⟨fun h => absurd h (by omega), fun _ => ?_⟩
            refine ⟨⟨by omega, by omega⟩, ?_⟩
            exact ⟨_, by omega, ci ⟨i + 1, _, _, _, _, rfl, ⟨rfl, rfl, rfl, rfl, trivial⟩, rfl, by omega, by omega, ⟨e1, e3, (Gr.cast g1 (by rw [hnx, addL_in hm2]))⟩⟩⟩
          · have h2 := idx_out hm2
            refine ⟨fun _ => ?_, fun h => absurd h (by omega)⟩
            refine ⟨by omega, part1 fzI ⟨[pnn (g x)], rfl, ?_⟩⟩
            have lz := (List.getElem?_eq_some_iff.1 e1).1
            refine appG (f := pnn) (e := 3) (y := g x) (Gr.push g1) push_cont rfl rfl rfl rfl (by kernel_rfl) rfl rfl (by omega) (by omega) fun v2 σ2 hv2 hkp2 hbv2 => ?_
            have f3 : blkOf v2 ≠ some 0 := fun e => by
              rw [hbv2] at e; have := Option.some.inj e; rw [List.length_append, List.length_singleton] at this; omega
            refine ⟨⟨by omega, by omega⟩, ?_⟩
            exact ⟨_, by omega, ci ⟨i + 1, _, v2, σ2, _, rfl, ⟨rfl, rfl, rfl, rfl, trivial⟩, rfl, by omega, by omega, ⟨hkp2 0 _ e3 (push_old e1), f3, by rw [hnx, addL_out hm2]; exact hv2⟩⟩⟩
    · have hin : i = n := Classical.byContradiction fun hne => by
        have := bfs_more ho.pr ho.pu ho.pos hs hc (show i < n by omega)
        omega
      obtain ⟨σ', hf⟩ := d5.fz
      rw [pIs_NL, hin, bfs_PL ho.pr ho.pu ho.pos hs hc] at hf
      have hlen2 := (bfs_full ho.pr ho.pu ho.pos hs hc).1
      rw [hin] at hb
      refine cal1 (by rw [hin]; exact hf) (rinverse_ct S hS (es_perm ho.pr ho.pu ho.pos hs hc) (by omega)) (by omega) ?_
      rintro _ rfl
      exact endq rfl rfl
end Go.PI
/- RENUMBERED squares; which of two comes first: of the reference. -/
open Go.Proofs
namespace Go.PI
open IM
set_option maxRecDepth 10000
set_option maxHeartbeats 4000000
variable (S : FuncId → Option (List AV → Heap → Option (AV × Heap)))
def Oren : Opn := ⟨fun t => Nat.beq t 45, fun t => Nat.beq t 45 || Nat.beq t 43, true⟩
theorem fn146 : ctx.fn 146 = some c146 := by kernel_rfl
def RnT (n : Nat) (e' f : Nat → Nat) (i : Nat) (ys : List Int) : Prop := ys.length = n ∧ ∀ j : Nat, j < i → ys[e' j]? = some (e' (f j) : Int)
theorem rnT_next {n : Nat} {e e' f : Nat → Nat} {i : Nat} {ys : List Int} (h : IsP n e e') (hi : i < n) (hy : RnT n e' f i ys) : RnT n e' f (i + 1) (ys.set (e' i) (e' (f i) : Int)) := by
  have hl := h.glt i hi
  refine ⟨by rw [List.length_set]; exact hy.1, fun j hj => ?_⟩
  by_cases hji : j = i
  · subst hji
    rw [List.getElem?_set_self (by have := hy.1; omega)]
  · rw [List.getElem?_set_ne (fun e2 => hji (h.inv.inj (by omega) (by omega) e2.symm))]
    exact hy.2 j (by omega)
theorem rnT_done {n : Nat} {e e' f : Nat → Nat} {ys : List Int} (h : IsP n e e') (hy : RnT n e' f n ys) : ys = PL n (rn e e' f) := by
  refine PL_ext hy.1 fun k hk => ?_
  have := hy.2 (e k) (h.lt k hk)
  rw [h.gf k hk] at this
  exact this
theorem renumber_ct (hS : OldO S) {r u : List Int} {n : Nat} {f f' g g' e e' : Nat → Nat} (ho : IsO r u n f f' g g') (he : IsP n e e') :
    Ct (ctx.plus S) 146 [pO r u, pIs (PL n e')] 200 fun w => w = pO (PL n (rn e e' f)) (PL n (rn e e' g)) := by
  have hn := ho.le
  have hrl := ho.l1.1
  have hul := ho.l1.2
  subst hrl
  have hel : (PL r.length e').length = r.length := PL_len
  have gr : ∀ i, i < r.length → r[i]? = some (f i : Int) := fun i hi => by
    have := ho.hr
    rw [show r[i]? = (PL r.length f)[i]? from congrArg (fun l : List Int => l[i]?) this, PL_get hi]
  have gu : ∀ i, i < r.length → u[i]? = some (g i : Int) := fun i hi => by rw [ho.hu, PL_get hi]
  have ge : ∀ i, i < r.length → (PL r.length e')[i]? = some (e' i : Int) := fun i hi => PL_get hi
  refine ctO_of Oren (hS 146 (by decide)) fn146 ?_
  refine ⟨by omega, ?_⟩
  refine ⟨by omega, ?_⟩
  refine ⟨by kernel_rfl, ?_⟩
  refine ⟨_, load_liv rfl rfl rfl, rfl, ?_⟩
  refine callq rfl (size_ct S hS (r := r) (u := u)) (by omega) ?_
  rintro _ rfl
  refine ⟨by omega, ⟨by omega, by omega, by omega⟩, _, int_zero, ?_⟩
  refine ⟨_, load_liv rfl rfl rfl, rfl, ?_⟩
  refine callq rfl (size_ct S hS (r := r) (u := u)) (by omega) ?_
  rintro _ rfl
  refine ⟨by omega, ⟨by omega, by omega, by omega⟩, _, int_zero, ?_⟩
  refine ⟨_, rfl, ?_⟩
  refine ⟨by omega, ?_⟩
  refine ⟨_, _, rfl, ⟨rfl, by decide, rfl⟩, _, rfl, _, rfl, ?_⟩
  refine ⟨fun q st => ∃ (i b : Nat) (ys zs : List Int) (T : List PV), st = ⟨T, [.liv 45 [pIs r, pIs u], .liv 45 [.nils, .nils], .live 3 (ys.map pn), .live 3 (zs.map pn), .liv 45 [.own 2 0 r.length r.length 1, .own 3 0 r.length r.length 1]], b⟩ ∧ Gt T 51 [(1, pIs (PL r.length e')), (2, .optr 0 0), (4, .optr 1 0), (5, .optr 4 0), (6, pn i)] ∧ q = r.length - i ∧ i ≤ r.length ∧ b ≤ 10 + i ∧ Hid (RnT r.length e' f i ys ∧ RnT r.length e' g i zs), ⟨_, ci ⟨0, _, _, _, _, rfl, ⟨rfl, rfl, rfl, rfl, rfl, rfl, trivial⟩, rfl, Nat.zero_le _, by omega, ⟨⟨by simp, fun j hj => by omega⟩, ⟨by simp, fun j hj => by omega⟩⟩⟩⟩, ?_⟩
  rintro _ st ⟨i, b, ys, zs, T, rfl, hT, rfl, hi, hb, hh⟩
  obtain ⟨J, rfl⟩ := gt_open hT
  clear hT
  obtain ⟨⟨y1, y2⟩, ⟨z1, z2⟩⟩ := hh.h
  refine ⟨_, load_liv rfl rfl rfl, ?_⟩
  refine callq rfl (size_ct S hS (r := r) (u := u)) (by omega) ?_
  rintro _ rfl
  refine ⟨fun hlt => ?_, fun hge => ?_⟩
  · have hin : i < r.length := by omega
    have c1 := ho.pr.lt i hin
    have c2 := ho.pu.lt i hin
    have c3 := he.glt i hin
    refine ⟨by kernel_rfl, ?_⟩
    refine ⟨_, load_liv rfl rfl rfl, rfl, ?_⟩
    refine ⟨⟨⟨by omega, by omega⟩, len_map_le (by omega)⟩, ?_⟩
    refine ⟨_, ld (at_map (ge i hin)) (by show _ * 1 = i; omega), rfl, ?_⟩
    refine ⟨_, load_liv rfl rfl rfl, rfl, ?_⟩
    refine ⟨⟨⟨by omega, by omega⟩, len_map_le (by omega)⟩, ?_⟩
    refine ⟨_, ld (at_map (gr i hin)) (by show _ * 1 = i; omega), rfl, ?_⟩
    refine ⟨⟨⟨by omega, by omega⟩, len_map_le (by omega)⟩, ?_⟩
    refine ⟨_, ld (at_map (ge (f i) c1)) (by show _ * 1 = f i; omega), rfl, ?_⟩
    refine ⟨⟨by omega, by omega⟩, ?_⟩
    refine ⟨_, _, rfl, ⟨rfl, by rw [List.length_map]; show 0 + e' i * 1 + 1 ≤ _; omega, rfl⟩, _, int_put (j := e' i) (by show 0 + e' i * 1 = e' i; omega) (by omega), _, rfl, ?_⟩
    refine ⟨by kernel_rfl, ?_⟩
    refine ⟨_, load_liv rfl rfl rfl, rfl, ?_⟩
    refine ⟨⟨⟨by omega, by omega⟩, len_map_le (by omega)⟩, ?_⟩
    refine ⟨_, ld (at_map (ge i hin)) (by show _ * 1 = i; omega), rfl, ?_⟩
    refine ⟨_, load_liv rfl rfl rfl, rfl, ?_⟩
    refine ⟨⟨⟨by omega, by omega⟩, len_map_le (by omega)⟩, ?_⟩
    refine ⟨_, ld (at_map (gu i hin)) (by show _ * 1 = i; omega), rfl, ?_⟩
    refine ⟨⟨⟨by omega, by omega⟩, len_map_le (by omega)⟩, ?_⟩
    refine ⟨_, ld (at_map (ge (g i) c2)) (by show _ * 1 = g i; omega), rfl, ?_⟩
    refine ⟨⟨by omega, by omega⟩, ?_⟩
    refine ⟨_, _, rfl, ⟨rfl, by rw [List.length_map]; show 0 + e' i * 1 + 1 ≤ _; omega, rfl⟩, _, int_put (j := e' i) (by show 0 + e' i * 1 = e' i; omega) (by omega), _, rfl, ?_⟩
    refine ⟨⟨by omega, by omega⟩, ?_⟩
    exact ⟨_, by omega, ci ⟨i + 1, _, _, _, _, rfl, ⟨rfl, rfl, rfl, rfl, rfl, rfl, trivial⟩, rfl, by omega, by omega, ⟨rnT_next he hin hh.h.1, rnT_next he hin hh.h.2⟩⟩⟩
  · have hin : i = r.length := by omega
    rw [hin] at hh
    have ey := rnT_done he hh.h.1
    have ez := rnT_done he hh.h.2
    refine ⟨_, load_liv rfl rfl rfl, ?_⟩
    refine ⟨_, _, rfl, ⟨rfl, by decide, rfl⟩, _, rfl, _, rfl, ?_⟩
    refine ⟨_, load_liv rfl rfl rfl, ?_⟩
    have h1 := fz_ints (i := 2) (n := r.length) (σ := [.liv 45 [pIs r, pIs u], .liv 45 [.own 2 0 r.length r.length 1, .own 3 0 r.length r.length 1], .live 3 (ys.map pn), .live 3 (zs.map pn), .liv 45 [.own 2 0 r.length r.length 1, .own 3 0 r.length r.length 1]]) (xs := ys) rfl y1
    have h2 := fz_ints (i := 3) (n := r.length) (σ := [.liv 45 [pIs r, pIs u], .liv 45 [.own 2 0 r.length r.length 1, .own 3 0 r.length r.length 1], .frz 3 (ys.map pn), .live 3 (zs.map pn), .liv 45 [.own 2 0 r.length r.length 1, .own 3 0 r.length r.length 1]]) (xs := zs) rfl z1
    have h3 : Fz (.agg [.own 2 0 r.length r.length 1, .own 3 0 r.length r.length 1]) _ (.agg [pIs ys, pIs zs]) _ := fun K hK => h1 _ (h2 _ hK)
    exact endf h3 (by rw [ey, ez]; rfl)
theorem fn134z : ctx.fn 134 = some c134 := by kernel_rfl
end Go.PI
/- WHICH OF TWO LISTS comes first. -/
open Go.Proofs
namespace Go.PI
open IM
set_option maxRecDepth 10000
set_option maxHeartbeats 4000000
variable (S : FuncId → Option (List AV → Heap → Option (AV × Heap)))
theorem fn154 : ctx.fn 154 = some c154 := by kernel_rfl
theorem rless_ct (hS : OldO S) {xs ys : List Int} (hl : xs.length = ys.length) (hx : xs.length ≤ 1000000) : Ct (ctx.plus S) 154 [pIs xs, pIs ys] 0 fun w => (Lt xs ys ∧ w = .bool true) ∨ (¬ Lt xs ys ∧ w = .bool false) := by
  refine ct_of (hS 154 (by decide)) fn154 ?_
  refine ⟨fun m s => ∃ (i : Nat) (T : List PV), s = ⟨T, [], 0⟩ ∧ Gt T 30 [(0, pIs xs), (1, pIs ys), (5, pn i)] ∧ m = xs.length - i ∧ i ≤ xs.length ∧ Hid (Eqs xs ys i), ⟨_, ci ⟨0, _, rfl, ⟨rfl, rfl, rfl, rfl, trivial⟩, rfl, Nat.zero_le _, ⟨rfl⟩⟩⟩, ?_⟩
  rintro _ s ⟨i, T, rfl, hT, rfl, hi, hn⟩
  obtain ⟨J, rfl⟩ := gt_open hT
  clear hT
  refine ⟨fun hlt => ?_, fun hge => ?_⟩
  · obtain ⟨a, ha⟩ := xs_get (xs := xs) (i := i) (by omega)
    obtain ⟨b, hb⟩ := xs_get (xs := ys) (i := i) (by omega)
    refine ⟨by kernel_rfl, ?_⟩
    refine ⟨⟨⟨by omega, by omega⟩, len_map_le (by omega)⟩, ?_⟩
    refine ⟨_, ld (at_map ha) (by show _ * 1 = i; omega), rfl, ?_⟩
    refine ⟨⟨⟨by omega, by omega⟩, len_map_le (by omega)⟩, ?_⟩
    refine ⟨_, ld (at_map hb) (by show _ * 1 = i; omega), rfl, ?_⟩
    refine ⟨fun hne => ?_, fun heq => ?_⟩
    · have hiff := lt_at hn.h ha hb (by omega)
      refine ⟨by kernel_rfl, ?_⟩
      refine ⟨⟨⟨by omega, by omega⟩, len_map_le (by omega)⟩, ?_⟩
      refine ⟨_, ld (at_map ha) (by show _ * 1 = i; omega), rfl, ?_⟩
      refine ⟨⟨⟨by omega, by omega⟩, len_map_le (by omega)⟩, ?_⟩
      refine ⟨_, ld (at_map hb) (by show _ * 1 = i; omega), rfl, ?_⟩
      refine ⟨fun h => ?_, fun h => ?_⟩
      · exact endq rfl (.inl ⟨hiff.2 (by omega), rfl⟩)
      · exact endq rfl (.inr ⟨fun hc => by have := hiff.1 hc; omega, rfl⟩)
    · refine ⟨⟨by omega, by omega⟩, ?_⟩
      exact ⟨_, by omega, ci ⟨i + 1, _, rfl, ⟨rfl, rfl, rfl, rfl, trivial⟩, rfl, by omega, ⟨eqs_next hn.h ha hb (by omega)⟩⟩⟩
  · have he : xs = ys := by
      have := hn.h; unfold Eqs at this
      rwa [List.take_of_length_le (by omega), List.take_of_length_le (by omega)] at this
    exact endq rfl (.inr ⟨fun hc => by rw [he] at hc; exact lt_irr hc, rfl⟩)
theorem callqu {dr : Bool} {C : Ctx} {c k d : Nat} {σ : List StB} {g : FuncId} {K : PV → List StB → Nat → Prop} {ps : List PV} {Q : TypeId → Nat → Nat → List PV → Prop} (hc : cloAs ps = true) (h : Cfu C g ps d Q) (hk : k + d ≤ c) (hK : ∀ ty n e cs, Q ty n e cs → K (.ownu σ.length n e) (σ ++ [.live ty cs]) (k + d)) : ArgK dr C c k σ g ps K := ⟨.inl (frzAsK_clo hc ⟨⟨d, hk, .inr (.inr ⟨Q, h, hK⟩)⟩⟩)⟩
theorem ones_pn {xs : List Int} : pones (xs.map pn) = true := by
  induction xs with
  | nil => rfl
  | cons x xs ih =>
    show ((pn x).one && pones (xs.map pn)) = true
    rw [ih]; rfl
theorem copyInts_cu (hS : OldO S) {xs : List Int} (hne : xs ≠ []) (hl : xs.length ≤ 100000) : Cfu (ctx.plus S) 134 [pIs xs] 2 fun ty n e cs => ty = 3 ∧ n = xs.length ∧ e = 1 ∧ cs = xs.map pn := by
  have hpos := List.length_pos_iff.2 hne
  refine cu_of (hS 134 (by decide)) fn134z ?_
  refine ⟨by omega, part0 ⟨_, rfl, ?_⟩⟩
  refine ⟨⟨by rw [List.length_map]; show xs.length = xs.length * 1; omega, ⟨by omega, ones_pn⟩, by omega, fun h => absurd h (by omega), fun h => ⟨by omega, 3, [], _, rfl, by simp, rfl, ?_⟩⟩⟩
  exact ⟨⟨_, _, _, _, _, rfl, push_get, rfl, by omega, rfl, rfl⟩⟩
end Go.PI
/- THE LABEL of the reference. -/
open Go.Proofs
namespace Go.PI
open IM
set_option maxRecDepth 10000
set_option maxHeartbeats 4000000
variable (S : FuncId → Option (List AV → Heap → Option (AV × Heap)))
theorem appU {C : Ctx} {c k : Nat} {σ : List StB} {e t tx : TypeId} {rest : List TypeId} {j n : Nat} {ys : List Int} {cs : List PV} {K : PV → List StB → Nat → Prop} {ti xi ei : TI} (hj : σ[j]? = some (.live e cs)) (hn : cs.length = n) (ht : C.ty t = some ti) (htd : ti.desc = .slice e) (htx : C.ty tx = some xi) (he : C.ty e = some ei) (hd : decide (srcOk xi.desc = true ∧ ei.bytes ≤ 2 ^ 10) = true) (hs : ei.size = 1)
    (hl : n ≤ 1000000) (hy : ys.length ≤ 1000000) (hk : k < c) (hK : K (.ownu σ.length (n + ys.length) 1) (σ.set j .dead ++ [.live e (cs ++ ys.map pn)]) (k + 1)) : AppK C c k σ (t :: tx :: rest) (.ownu j n 1) (pIs ys) K := by
  refine ⟨?_⟩
  obtain ⟨desc, sz, by', z⟩ := ti
  simp only at htd
  subst htd
  unfold pappK pIs
  simp only [ht, htx, he, hd]
  refine ⟨by rw [hs, List.length_map]; omega, ⟨by omega, ones_pn⟩, ⟨by omega, hs.symm, hk⟩, cs, _, hj, by rw [hs]; omega, rfl, ?_⟩
  rw [hs, List.take_of_length_le (by omega)]
  exact hK
theorem fz_grown {i n : Nat} {σ : List StB} {xs : List Int} {cs : List PV} {ty : TypeId} (h : contOf σ i = some (ty, cs)) (hc : cs = xs.map pn) (hl : xs.length = n) : Fz (.ownu i n 1) σ (pIs xs) (σ.set i (.frz ty cs)) := by
  subst hl
  subst hc
  exact fun K hK => ⟨ty, _, _, h, ⟨by simp, fun _ => rfl⟩, by rw [List.take_of_length_le (by simp)], hK⟩
theorem nebq {n m : Nat} (h : Nat.beq n m = false) : n ≠ m := fun e => by subst e; simp at h
theorem fn96 : ctx.fn 96 = some c96 := by kernel_rfl
theorem before_ct (hS : OldO S) {R U R' U' : List Int} (hne : R ≠ []) (h1 : R.length = R'.length) (h2 : U.length = U'.length) (hl : R.length ≤ 1000) (hl2 : U.length ≤ 1000) :
    Ct (ctx.plus S) 96 [pO R U, pO R' U'] 10 fun w => (Lt (R ++ U) (R' ++ U') ∧ w = .bool true) ∨ (¬ Lt (R ++ U) (R' ++ U') ∧ w = .bool false) := by
  have hne' : R' ≠ [] := fun e => by rw [e] at h1; exact hne (List.length_eq_zero_iff.1 h1)
  refine ctO_of ⟨fun _ => false, fun _ => false, true⟩ (hS 96 (by decide)) fn96 ?_
  refine ⟨by omega, by omega, ?_⟩
  refine ⟨by kernel_rfl, ?_⟩
  refine ⟨_, rfl, rfl, ?_⟩
  refine callqu rfl (copyInts_cu S hS hne (by omega)) (by omega) ?_
  rintro ty n e cs ⟨rfl, rfl, rfl, rfl⟩
  refine ⟨_, rfl, rfl, ?_⟩
  refine ⟨⟨nebq (by kernel_rfl), nebq (by kernel_rfl), nebq (by kernel_rfl), nebq (by kernel_rfl), trivial⟩, ?_⟩
  refine appU (e := 3) rfl (by rw [List.length_map]) rfl rfl rfl rfl (by kernel_rfl) rfl (by omega) (by omega) (by omega) ?_
  refine ⟨_, rfl, rfl, ?_⟩
  refine callqu rfl (copyInts_cu S hS hne' (by omega)) (by omega) ?_
  rintro ty n e cs ⟨rfl, rfl, rfl, rfl⟩
  refine ⟨_, rfl, rfl, ?_⟩
  refine ⟨⟨nebq (by kernel_rfl), nebq (by kernel_rfl), nebq (by kernel_rfl), nebq (by kernel_rfl), trivial⟩, ?_⟩
  refine appU (e := 3) rfl (by rw [List.length_map]) rfl rfl rfl rfl (by kernel_rfl) rfl (by omega) (by omega) (by omega) ?_
  refine cal2 (fz_grown (xs := R ++ U) rfl (by rw [List.map_append]) (by rw [List.length_append])) (fz_grown (xs := R' ++ U') rfl (by rw [List.map_append]) (by rw [List.length_append])) (rless_ct S hS (by simp; omega) (by simp; omega)) (by omega) ?_
  rintro _ (⟨h, rfl⟩ | ⟨h, rfl⟩)
  · exact endq rfl (.inl ⟨h, rfl⟩)
  · exact endq rfl (.inr ⟨h, rfl⟩)
end Go.PI
/- THE LABEL of the reference: the best of all numberings. -/
open Go.Proofs
namespace Go.PI
open IM
set_option maxRecDepth 10000
set_option maxHeartbeats 4000000
variable (S : FuncId → Option (List AV → Heap → Option (AV × Heap)))
theorem fn91 : ctx.fn 91 = some c91 := by kernel_rfl
theorem rlabel_ct (hS : OldO S) {r u : List Int} {n : Nat} {f f' g g' : Nat → Nat} (ho : IsO r u n f f' g g') (hc : Conn n f g) :
    Ct (ctx.plus S) 91 [pO r u] 100000 fun w => w = .tup [pO (Rs f g n (bst f g n n)) (Us f g n (bst f g n n)), pIs (PL n (ei f g n (bst f g n n)))] := by
  have hn := ho.le
  have h0 := ho.pos
  have hrl := ho.l1.1
  have hp := fun s hs => es_perm (s := s) ho.pr ho.pu h0 hs hc
  refine ct_of (hS 91 (by decide)) fn91 ?_
  refine ⟨by omega, by omega, ?_⟩
  refine ⟨_, rfl, ?_⟩
  refine callq rfl (from_ct S hS ho h0 hc) (by omega) ?_
  rintro _ rfl
  refine ⟨fun m st => ∃ (i b : Nat) (T : List PV), st = ⟨T, [.live 45 [pIs r, pIs u], .live 45 [.lst 0 [], .lst 0 []]], b⟩ ∧ Gt T 30 [(1, .optr 0 0), (2, .optr 1 0), (4, pIs (PL n (ei f g n (bst f g n i)))), (5, pn i)] ∧ m = n - i ∧ 1 ≤ i ∧ i ≤ n ∧ b ≤ 1010 + 1500 * i, ⟨_, ci ⟨1, _, _, rfl, ⟨rfl, rfl, rfl, by rw [bst_one]; rfl, rfl, trivial⟩, rfl, Nat.le_refl _, by omega, by omega⟩⟩, ?_⟩
  rintro _ st ⟨i, b, T, rfl, hT, rfl, hi1, hi, hb⟩
  obtain ⟨J, rfl⟩ := gt_open hT
  clear hT
  refine ⟨_, rfl, ?_⟩
  refine callq rfl (size_ct S hS (r := r) (u := u)) (by omega) ?_
  rintro _ rfl
  refine ⟨fun hlt => ?_, fun hge => ?_⟩
  · have hin : i < n := by omega
    have hbl := bst_lt (f := f) (g := g) h0 i (by omega)
    refine ⟨_, rfl, ?_⟩
    refine callq rfl (from_ct S hS ho hin hc) (by omega) ?_
    rintro _ rfl
    refine ⟨by kernel_rfl, ?_⟩
    refine ⟨_, rfl, rfl, ?_⟩
    refine callq rfl (renumber_ct S hS ho (hp i hin)) (by omega) ?_
    rintro _ rfl
    refine ⟨_, rfl, rfl, ?_⟩
    refine callq rfl (renumber_ct S hS ho (hp _ hbl)) (by omega) ?_
    rintro _ rfl
    refine callq rfl (before_ct S hS (R := Rs f g n i) (U := Us f g n i) (R' := Rs f g n (bst f g n i)) (U' := Us f g n (bst f g n i)) (Rs_ne h0) (by rw [Rs_len, Rs_len]) (by rw [Us_len, Us_len]) (by rw [Rs_len]; omega) (by rw [Us_len]; omega)) (by omega) ?_
    rintro _ (⟨hB, rfl⟩ | ⟨hB, rfl⟩)
    · refine ⟨⟨by omega, by omega⟩, ?_⟩
      exact ⟨_, by omega, ci ⟨i + 1, _, _, rfl, ⟨rfl, rfl, rfl, by rw [bst_yes hB]; rfl, rfl, trivial⟩, rfl, by omega, by omega, by omega⟩⟩
    · refine ⟨⟨by omega, by omega⟩, ?_⟩
      exact ⟨_, by omega, ci ⟨i + 1, _, _, rfl, ⟨rfl, rfl, rfl, by rw [bst_no hB]; rfl, rfl, trivial⟩, rfl, by omega, by omega, by omega⟩⟩
  · have hin : i = n := by omega
    subst hin
    have hbl := bst_lt (f := f) (g := g) h0 i (by omega)
    refine ⟨_, rfl, ?_⟩
    refine callq rfl (renumber_ct S hS ho (hp _ hbl)) (by omega) ?_
    rintro _ rfl
    refine ⟨_, _, rfl, ⟨rfl, by decide, rfl⟩, _, rfl, _, rfl, ?_⟩
    refine ⟨_, rfl, ?_⟩
    exact endsq rfl rfl
end Go.PI
/- NUMBERINGS of the program: one square more; which of two lists comes first. -/
open Go.Proofs
namespace Go.PI
open IM
set_option maxRecDepth 10000
set_option maxHeartbeats 4000000
variable (S : FuncId → Option (List AV → Heap → Option (AV × Heap)))
theorem fn258 : ctx.fn 258 = some c258 := by kernel_rfl
theorem isNaN_ct (hS : OldO S) {x : Int} : Ct (ctx.plus S) 258 [pn x] 0 fun w => w = .bool false := by
  refine ct_of (hS 258 (by decide)) fn258 ?_
  exact ⟨fun h => absurd rfl h, fun _ => endq rfl rfl⟩
theorem fn227 : ctx.fn 227 = some c227 := by kernel_rfl
theorem compare_ct (hS : OldO S) {x y : Int} : Ct (ctx.plus S) 227 [pn x, pn y] 0 fun w => (x < y ∧ w = pn (-1)) ∨ (x = y ∧ w = pn 0) ∨ (y < x ∧ w = pn 1) := by
  refine ct_of (hS 227 (by decide)) fn227 ?_
  refine callq rfl (isNaN_ct S hS) (by omega) ?_
  rintro _ rfl
  refine callq rfl (isNaN_ct S hS) (by omega) ?_
  rintro _ rfl
  refine ⟨fun h => ?_, fun h => ?_⟩
  · exact endq rfl (.inl ⟨by omega, rfl⟩)
  refine ⟨fun h2 => ?_, fun h2 => ?_⟩
  · exact endq rfl (.inr (.inr ⟨by omega, rfl⟩))
  · exact endq rfl (.inr (.inl ⟨by omega, rfl⟩))
theorem fn195 : ctx.fn 195 = some c195 := by kernel_rfl
theorem compareL_ct (hS : OldO S) {xs ys : List Int} (hl : xs.length = ys.length) (hx : xs.length ≤ 1000000) : Ct (ctx.plus S) 195 [pIs xs, pIs ys] 0 fun w => ∃ c : Int, w = pn c ∧ (c < 0 ↔ Lt xs ys) := by
  refine ct_of (hS 195 (by decide)) fn195 ?_
  refine ⟨fun m s => ∃ (i : Nat) (T : List PV), s = ⟨T, [], 0⟩ ∧ Gt T 36 [(0, pIs xs), (1, pIs ys), (9, pIs xs), (10, pn xs.length), (11, pn i)] ∧ m = xs.length - i ∧ i ≤ xs.length ∧ Hid (Eqs xs ys i), ⟨_, ci ⟨0, _, rfl, ⟨rfl, rfl, rfl, rfl, rfl, rfl, trivial⟩, rfl, Nat.zero_le _, ⟨rfl⟩⟩⟩, ?_⟩
  rintro _ s ⟨i, T, rfl, hT, rfl, hi, hn⟩
  obtain ⟨J, rfl⟩ := gt_open hT
  clear hT
  refine ⟨fun hlt => ?_, fun hge => ?_⟩
  · obtain ⟨a, ha⟩ := xs_get (xs := xs) (i := i) (by omega)
    obtain ⟨b, hb⟩ := xs_get (xs := ys) (i := i) (by omega)
    refine ⟨⟨⟨by omega, by omega⟩, len_map_le (by omega)⟩, ?_⟩
    refine ⟨_, ld (at_map ha) (by show _ * 1 = i; omega), ?_⟩
    refine ⟨fun h => absurd h (by omega), fun _ => ?_⟩
    refine ⟨⟨⟨by omega, by omega⟩, len_map_le (by omega)⟩, ?_⟩
    refine ⟨_, ld (at_map hb) (by show _ * 1 = i; omega), ?_⟩
    refine callq rfl (compare_ct S hS) (by omega) ?_
    rintro _ (⟨h, rfl⟩ | ⟨h, rfl⟩ | ⟨h, rfl⟩)
    · refine ⟨fun _ => ?_, fun h => absurd h (by decide)⟩
      exact endq rfl ⟨-1, rfl, fun _ => (lt_at hn.h ha hb (by omega)).2 h, fun _ => by omega⟩
    · refine ⟨fun h => absurd rfl h, fun _ => ?_⟩
      refine ⟨⟨by omega, by omega⟩, ?_⟩
      exact ⟨_, by omega, ci ⟨i + 1, _, rfl, ⟨rfl, rfl, rfl, rfl, rfl, rfl, trivial⟩, rfl, by omega, ⟨eqs_next hn.h ha hb h⟩⟩⟩
    · refine ⟨fun _ => ?_, fun h => absurd h (by decide)⟩
      exact endq rfl ⟨1, rfl, fun h => by omega, fun hc => by have := (lt_at hn.h ha hb (by omega)).1 hc; omega⟩
  · have he : xs = ys := by
      have := hn.h; unfold Eqs at this
      rwa [List.take_of_length_le (by omega), List.take_of_length_le (by omega)] at this
    refine ⟨fun h => absurd h (by omega), fun _ => ?_⟩
    exact endq rfl ⟨0, rfl, fun h => by omega, fun hc => by rw [he] at hc; exact absurd hc lt_irr⟩
theorem Gr.smP {α : Type} {f : α → PV} {e : TypeId} {v : PV} {σ : List StB} {Xs : List α} (h : Gr f e v σ Xs) : Go.PI.smP v = true := by
  rcases h with ⟨rfl, h⟩ | ⟨j, ty, rfl, h⟩ | ⟨j, rfl, h⟩ <;> rfl
theorem apW_of {α : Type} {f : α → PV} {e : TypeId} {v : PV} {σ : List StB} {Xs : List α} {T : List PV} {ys : List Tmp} (h : Gr f e v σ Xs) (k : ∀ j, blkOf v = some j → apC T j ys) : apW T ys v := by
  rcases h with ⟨rfl, h⟩ | ⟨j, ty, rfl, h⟩ | ⟨j, rfl, h⟩
  · trivial
  · exact k j rfl
  · exact k j rfl
theorem fn257 : ctx.fn 257 = some c257 := by kernel_rfl
theorem with_cm (hS : OldO S) {σ : List StB} {vr vu : PV} {X Y : List Nat} {a b : Nat} (hr : Gr pnn 3 vr σ X) (hu : Gr pnn 3 vu σ Y) (hru : ∀ j, blkOf vr = some j → blkOf vu ≠ some j) (hl : X.length ≤ 1000) (hl2 : Y.length ≤ 1000) :
    Cm (ctx.plus S) 257 [.agg [vr, vu], .agg [pnn a, pnn b]] σ 10 fun w σ' => ∃ vr' vu', w = .agg [vr', vu'] ∧ Gr pnn 3 vr' σ' (X ++ [a]) ∧ Gr pnn 3 vu' σ' (Y ++ [b]) ∧ (∀ j, blkOf vr' = some j → blkOf vu' ≠ some j) ∧ σ.length ≤ σ'.length ∧
      (∀ i bl, blkOf vr ≠ some i → blkOf vu ≠ some i → σ[i]? = some bl → σ'[i]? = some bl) ∧ (∀ i, i < σ.length → blkOf vr' ≠ some i ∧ blkOf vu' ≠ some i) := by
  refine cm_of Oren (hS 257 (by decide)) fn257 fun c k0 hc => ?_
  refine ⟨by omega, by omega, ?_⟩
  refine ⟨by omega, ?_⟩
  refine ⟨by kernel_rfl, ?_⟩
  have l1 : ∀ x, (σ ++ [x]).length = σ.length + 1 := fun x => by simp
  refine ⟨vr, load_liv (push_old (push_old push_get)) rfl rfl, hr.smP, ?_⟩
  refine ⟨⟨by omega, by omega⟩, ?_⟩
  refine ⟨_, load_k rfl rfl (contOf_app push_cont) (show [pnn a, pnn b][0]? = some (pnn a) from rfl) (by rfl), rfl, ?_⟩
  refine ⟨by omega, part1 fzI ⟨[pnn a], rfl, ?_⟩⟩
  have hA : ∀ j, j < σ.length → σ.length ≠ j := fun j hj e => by omega
  have hA2 : ∀ i, i < σ.length + 2 → i ≠ σ.length + 2 := fun i hi => by omega
  have hB : ∀ x j, j < σ.length → (σ ++ [x]).length ≠ j := fun x j hj e => by rw [l1] at e; omega
  refine ⟨apW_of hr fun j hj => ⟨hA j (hr.blk hj), hB _ j (hr.blk hj), hA j (hr.blk hj), hB _ j (hr.blk hj), trivial⟩, ?_⟩
  have g0 : ∀ {i : Nat} {bl : StB}, σ[i]? = some bl → i < σ.length := fun h => (List.getElem?_eq_some_iff.1 h).1
  refine appG (f := pnn) (e := 3) (y := a) hr.push.push.push.push push_cont rfl rfl rfl rfl (by kernel_rfl) rfl rfl (by omega) (by omega) fun vr' σ4 hr' hk hb' => ?_
  have L3 : (σ ++ [StB.liv 45 [vr, vu]] ++ [StB.live 174 [pnn a, pnn b]] ++ [StB.liv 45 [.nils, .nils]] ++ [StB.live 3 [pnn a]]).length = σ.length + 4 := by simp
  have hb' : blkOf vr' = some (σ.length + 4) := by rw [← L3]; exact hb'
  have hl4 := hr'.blk hb'
  have nr : ∀ i, σ.length ≤ i → blkOf vr ≠ some i := fun i hi e => by have := hr.blk e; omega
  have nu : ∀ i, σ.length ≤ i → blkOf vu ≠ some i := fun i hi e => by have := hu.blk e; omega
  have k0' := hk σ.length _ (nr _ (by omega)) (push_old (push_old (push_old push_get)))
  have k1' := hk (σ.length + 1) _ (nr _ (by omega)) (push_old (push_old (by rw [← l1 (StB.liv 45 [vr, vu])]; exact push_get)))
  have k2' := hk (σ.length + 2) _ (nr _ (by omega)) (push_old (by rw [show σ.length + 2 = (σ ++ [StB.liv 45 [vr, vu]] ++ [StB.live 174 [pnn a, pnn b]]).length by simp]; exact push_get))
  have hu4 : Gr pnn 3 vu σ4 Y := hu.keep fun i bl hi hbl => hk i bl (fun e => hru i e hi) (push_old (push_old (push_old (push_old hbl))))
  refine ⟨vu, load_liv k0' rfl rfl, hu.smP, ?_⟩
  refine ⟨⟨by omega, by omega⟩, ?_⟩
  rw [l1]
  refine ⟨_, load_k rfl rfl (contOf_live k1') (show [pnn a, pnn b][1]? = some (pnn b) from rfl) (by rfl), rfl, ?_⟩
  refine ⟨by omega, part1 fzI ⟨[pnn b], rfl, ?_⟩⟩
  have L4 : (σ4 ++ [StB.live 3 [pnn b]]).length = σ4.length + 1 := by simp
  refine ⟨apW_of hu4 fun j hj => ?_, ?_⟩
  · have hjl := hu.blk hj
    exact ⟨hA j hjl, fun e => by omega, hA j hjl, fun e => by omega, trivial⟩
  refine appG (f := pnn) (e := 3) (y := b) hu4.push push_cont rfl rfl rfl rfl (by kernel_rfl) rfl rfl (by omega) (by omega) fun vu' σ5 hu' hk5 hb5 => ?_
  rw [L4] at hb5
  have hl5 := hu'.blk hb5
  have k2'' := hk5 (σ.length + 2) _ (nu _ (by omega)) (push_old k2')
  have L2 : ∀ x y, (σ ++ [x] ++ [y]).length = σ.length + 2 := fun x y => by simp
  have hr5 : Gr pnn 3 vr' σ5 (X ++ [a]) := hr'.keep fun i bl hi hbl => by
    rw [hb'] at hi
    have := Option.some.inj hi
    exact hk5 i bl (nu i (by omega)) (push_old hbl)
  have l5 : σ.length + 2 < σ5.length := (List.getElem?_eq_some_iff.1 k2'').1
  have kp : ∀ q : Nat, q = σ.length + 2 → ∀ x : StB, (∀ i bl, blkOf vr ≠ some i → blkOf vu ≠ some i → σ[i]? = some bl → (σ5.set q x)[i]? = some bl) := fun q hq x i bl h1 h2 h3 => by
    have hi := g0 h3
    rw [List.getElem?_set_ne (by omega)]
    exact hk5 i bl h2 (push_old (hk i bl h1 (push_old (push_old (push_old (push_old h3))))))
  have fin : ∀ q : Nat, q = σ.length + 2 → ∀ x : StB, Gr pnn 3 vr' (σ5.set q x) (X ++ [a]) ∧ Gr pnn 3 vu' (σ5.set q x) (Y ++ [b]) ∧ (∀ j, blkOf vr' = some j → blkOf vu' ≠ some j) ∧ σ.length ≤ (σ5.set q x).length ∧
      (∀ i bl, blkOf vr ≠ some i → blkOf vu ≠ some i → σ[i]? = some bl → (σ5.set q x)[i]? = some bl) ∧ (∀ i, i < σ.length → blkOf vr' ≠ some i ∧ blkOf vu' ≠ some i) := fun q hq x => by
    refine ⟨hr5.keep fun i bl hi hbl => ?_, hu'.keep fun i bl hi hbl => ?_, fun j h1 h2 => ?_, by rw [List.length_set]; omega, kp q hq x, fun i hi => ⟨fun e => ?_, fun e => ?_⟩⟩
    · rw [hb'] at hi
      have := Option.some.inj hi
      rw [List.getElem?_set_ne (by omega)]; exact hbl
    · rw [hb5] at hi
      have := Option.some.inj hi
      rw [List.getElem?_set_ne (by omega)]; exact hbl
    · rw [hb'] at h1
      rw [hb5] at h2
      have := Option.some.inj h1
      have := Option.some.inj h2
      omega
    · rw [hb'] at e
      have := Option.some.inj e
      omega
    · rw [hb5] at e
      have := Option.some.inj e
      omega
  obtain ⟨j1, t1, -, e1⟩ := hr'.shape (by simp)
  obtain ⟨j2, t2, -, e2⟩ := hu'.shape (by simp)
  rcases e1 with rfl | rfl <;> rcases e2 with rfl | rfl
  all_goals
    refine ⟨_, rfl, ?_⟩
    rw [L2]
    refine ⟨⟨hA2 _ (by omega), hA2 _ (by omega), hA2 _ (by omega), hA2 _ (by omega), trivial⟩, ?_⟩
    refine ⟨_, _, k2'', ⟨rfl, by decide, rfl⟩, _, rfl, _, rfl, ?_⟩
    refine ⟨_, load_liv (List.getElem?_set_self l5) rfl rfl, ?_⟩
    obtain ⟨f1, f2, f3, f4, f5, f6⟩ := fin _ rfl _
    exact endm [] (by dsimp only; omega) ⟨_, _, rfl, f1, f2, f3, f4, f5, f6⟩
end Go.PI
/- A NUMBERING and what is built by it: what the store holds. -/
open Go.Proofs
namespace Go.PI
open IM
set_option maxRecDepth 10000
set_option maxHeartbeats 4000000
def Xi (f g : Nat → Nat) (n s i : Nat) : List Nat := (List.range i).map (rn (es f g n s) (ei f g n s) f)
def Yi (f g : Nat → Nat) (n s i : Nat) : List Nat := (List.range i).map (rn (es f g n s) (ei f g n s) g)
theorem Xi_succ {f g : Nat → Nat} {n s i : Nat} : Xi f g n s (i + 1) = Xi f g n s i ++ [rn (es f g n s) (ei f g n s) f i] := by unfold Xi; rw [List.range_succ, List.map_append]; rfl
theorem Yi_succ {f g : Nat → Nat} {n s i : Nat} : Yi f g n s (i + 1) = Yi f g n s i ++ [rn (es f g n s) (ei f g n s) g i] := by unfold Yi; rw [List.range_succ, List.map_append]; rfl
theorem Xi_len {f g : Nat → Nat} {n s i : Nat} : (Xi f g n s i).length = i := by simp [Xi]
theorem Yi_len {f g : Nat → Nat} {n s i : Nat} : (Yi f g n s i).length = i := by simp [Yi]
theorem Xi_full {f g : Nat → Nat} {n s : Nat} : NL (Xi f g n s n) = Rs f g n s := by unfold NL Xi Rs PL; rw [List.map_map]; rfl
theorem Yi_full {f g : Nat → Nat} {n s : Nat} : NL (Yi f g n s n) = Us f g n s := by unfold NL Yi Us PL; rw [List.map_map]; rfl
structure Own1 (σ0 σ : List StB) (L4 L5 L6 : Nat) (w v : PV) : Prop where
  out : ∀ q, blkOf v = some q → σ0.length ≤ q ∧ q < σ.length ∧ q ≠ L4 ∧ q ≠ L5 ∧ q ≠ L6 ∧ blkOf w ≠ some q
structure ML (σ0 σ : List StB) (j m : Nat) (v0 v vr vu : PV) (L4 L5 L6 : Nat) (P4 P5 : List PV) (xs X Y : List Nat) : Prop where
  jl : j < σ0.length
  ml : m < σ0.length
  l4 : σ0.length ≤ L4
  l5 : L4 < L5
  l6 : L5 < L6
  c4 : σ[L4]? = some (.liv 45 P4)
  c5 : σ[L5]? = some (.liv 45 P5)
  c6 : σ[L6]? = some (.liv 45 [vr, vu])
  num : Num σ j m v xs
  keep : ∀ (i : Nat) (b : StB), i ≠ j → i ≠ m → blkOf v0 ≠ some i → σ0[i]? = some b → σ[i]? = some b
  len : σ0.length ≤ σ.length
  old : ∀ i, i < σ0.length → blkOf v0 ≠ some i → blkOf v ≠ some i
  b4 : blkOf v ≠ some L4
  b5 : blkOf v ≠ some L5
  b6 : blkOf v ≠ some L6
  gr : Gr pnn 3 vr σ X
  gu : Gr pnn 3 vu σ Y
  sep : ∀ q, blkOf vr = some q → blkOf vu ≠ some q
  o1 : Own1 σ0 σ L4 L5 L6 v vr
  o2 : Own1 σ0 σ L4 L5 L6 v vu
theorem ML.lt6 {σ0 σ : List StB} {j m : Nat} {v0 v vr vu : PV} {L4 L5 L6 : Nat} {P4 P5 : List PV} {xs X Y : List Nat} (h : ML σ0 σ j m v0 v vr vu L4 L5 L6 P4 P5 xs X Y) : L6 < σ.length := (List.getElem?_eq_some_iff.1 h.c6).1
theorem ML.around {σ0 σ σ2 : List StB} {j m : Nat} {v0 v v2 vr vu : PV} {L4 L5 L6 : Nat} {P4 P5 : List PV} {xs xs2 X Y : List Nat} (h : ML σ0 σ j m v0 v vr vu L4 L5 L6 P4 P5 xs X Y) (e1 : Num σ2 j m v2 xs2) (e2 : NF σ σ2 j m v v2) : ML σ0 σ2 j m v0 v2 vr vu L4 L5 L6 P4 P5 xs2 X Y := by
  have hl6 := h.lt6
  have a1 := h.jl
  have a2 := h.ml
  have a3 := h.l4
  have a4 := h.l5
  have a5 := h.l6
  have hlen := h.len
  have ow : ∀ {w : PV}, Own1 σ0 σ L4 L5 L6 v w → Own1 σ0 σ2 L4 L5 L6 v2 w := fun {w} o => ⟨fun q hq => by
    obtain ⟨b1, b2, b3, b4, b5, b6⟩ := o.out q hq
    exact ⟨b1, Nat.lt_of_lt_of_le b2 e2.len, b3, b4, b5, e2.blk q b2 b6⟩⟩
  have kg : ∀ {w : PV} {Z : List Nat}, Own1 σ0 σ L4 L5 L6 v w → Gr pnn 3 w σ Z → Gr pnn 3 w σ2 Z := fun {w Z} o g => g.keep fun i b hi hb => by
    obtain ⟨b1, b2, b3, b4, b5, b6⟩ := o.out i hi
    exact e2.keep i b (by omega) (by omega) b6 hb
  exact ⟨a1, a2, a3, a4, a5, e2.keep L4 _ (by omega) (by omega) h.b4 h.c4, e2.keep L5 _ (by omega) (by omega) h.b5 h.c5, e2.keep L6 _ (by omega) (by omega) h.b6 h.c6, e1,
    fun i b h1 h2 h3 h4 => e2.keep i b h1 h2 (h.old i (List.getElem?_eq_some_iff.1 h4).1 h3) (h.keep i b h1 h2 h3 h4), Nat.le_trans hlen e2.len,
    fun i hi h3 => e2.blk i (Nat.lt_of_lt_of_le hi hlen) (h.old i hi h3), e2.blk L4 (by omega) h.b4, e2.blk L5 (by omega) h.b5, e2.blk L6 hl6 h.b6, kg h.o1 h.gr, kg h.o2 h.gu, h.sep, ow h.o1, ow h.o2⟩
theorem ML.push {σ0 σ : List StB} {j m : Nat} {v0 v vr vu : PV} {L4 L5 L6 : Nat} {P4 P5 : List PV} {xs X Y : List Nat} {b : StB} (h : ML σ0 σ j m v0 v vr vu L4 L5 L6 P4 P5 xs X Y) : ML σ0 (σ ++ [b]) j m v0 v vr vu L4 L5 L6 P4 P5 xs X Y := by
  have ow : ∀ {w : PV}, Own1 σ0 σ L4 L5 L6 v w → Own1 σ0 (σ ++ [b]) L4 L5 L6 v w := fun {w} o => ⟨fun q hq => by
    obtain ⟨b1, b2, b3⟩ := o.out q hq
    exact ⟨b1, by rw [List.length_append]; omega, b3⟩⟩
  exact ⟨h.jl, h.ml, h.l4, h.l5, h.l6, push_old h.c4, push_old h.c5, push_old h.c6, h.num.push, fun i x h1 h2 h3 h4 => push_old (h.keep i x h1 h2 h3 h4), by rw [List.length_append]; have := h.len; omega, h.old, h.b4, h.b5, h.b6, h.gr.push, h.gu.push, h.sep, ow h.o1, ow h.o2⟩
theorem ML.with {σ0 σ σ3 : List StB} {j m : Nat} {v0 v vr vu vr' vu' : PV} {L4 L5 L6 : Nat} {P4 P5 : List PV} {xs X Y X' Y' : List Nat} (h : ML σ0 σ j m v0 v vr vu L4 L5 L6 P4 P5 xs X Y)
    (w1 : Gr pnn 3 vr' σ3 X') (w2 : Gr pnn 3 vu' σ3 Y') (w3 : ∀ q, blkOf vr' = some q → blkOf vu' ≠ some q) (w4 : σ.length ≤ σ3.length) (w5 : ∀ i bl, blkOf vr ≠ some i → blkOf vu ≠ some i → σ[i]? = some bl → σ3[i]? = some bl) (w6 : ∀ i, i < σ.length → blkOf vr' ≠ some i ∧ blkOf vu' ≠ some i) :
    ML σ0 (σ3.set L6 (.liv 45 [vr', vu'])) j m v0 v vr' vu' L4 L5 L6 P4 P5 xs X' Y' := by
  have hl6 := h.lt6
  have a1 := h.jl
  have a2 := h.ml
  have a3 := h.l4
  have a4 := h.l5
  have a5 := h.l6
  have hlen := h.len
  have hvb : ∀ q, blkOf v = some q → q < σ.length := fun q hq => h.num.gr.blk hq
  have lo : ∀ i, i < σ0.length → blkOf vr ≠ some i ∧ blkOf vu ≠ some i := fun i hi => ⟨fun e => by have := (h.o1.out i e).1; omega, fun e => by have := (h.o2.out i e).1; omega⟩
  have n4 : blkOf vr ≠ some L4 ∧ blkOf vu ≠ some L4 := ⟨fun e => (h.o1.out _ e).2.2.1 rfl, fun e => (h.o2.out _ e).2.2.1 rfl⟩
  have n5 : blkOf vr ≠ some L5 ∧ blkOf vu ≠ some L5 := ⟨fun e => (h.o1.out _ e).2.2.2.1 rfl, fun e => (h.o2.out _ e).2.2.2.1 rfl⟩
  have nv : ∀ q, blkOf v = some q → blkOf vr ≠ some q ∧ blkOf vu ≠ some q := fun q hq => ⟨fun e => (h.o1.out _ e).2.2.2.2.2 hq, fun e => (h.o2.out _ e).2.2.2.2.2 hq⟩
  have ow : ∀ {w : PV} {Z : List Nat}, Gr pnn 3 w σ3 Z → (∀ i, i < σ.length → blkOf w ≠ some i) → Own1 σ0 (σ3.set L6 (.liv 45 [vr', vu'])) L4 L5 L6 v w := fun {w Z} g hw => ⟨fun q hq => by
    have hge : ¬ q < σ.length := fun hlt => hw q hlt hq
    have := g.blk hq
    exact ⟨by omega, by rw [List.length_set]; omega, by omega, by omega, by omega, fun e => hge (hvb q e)⟩⟩
  have kg : ∀ {w : PV} {Z : List Nat}, Gr pnn 3 w σ3 Z → (∀ i, i < σ.length → blkOf w ≠ some i) → Gr pnn 3 w (σ3.set L6 (.liv 45 [vr', vu'])) Z := fun {w Z} g hw => g.keep fun i b hi hb => by
    rw [List.getElem?_set_ne (fun e => hw L6 hl6 (by rw [e]; exact hi))]; exact hb
  have w6a := fun i hi => (w6 i hi).1
  have w6b := fun i hi => (w6 i hi).2
  refine ⟨a1, a2, a3, a4, a5, ?_, ?_, List.getElem?_set_self (by omega), ?_, fun i b h1 h2 h3 h4 => ?_, by rw [List.length_set]; omega, h.old, h.b4, h.b5, h.b6, kg w1 w6a, kg w2 w6b, w3, ow w1 w6a, ow w2 w6b⟩
  · rw [List.getElem?_set_ne (by omega)]; exact w5 _ _ n4.1 n4.2 h.c4
  · rw [List.getElem?_set_ne (by omega)]; exact w5 _ _ n5.1 n5.2 h.c5
  · refine (h.num.keep fun i b hi hb => w5 i b ?_ ?_ hb).set (by omega) (by omega) h.b6
    · rcases hi with rfl | rfl | hi
      · exact (lo _ a1).1
      · exact (lo _ a2).1
      · exact (nv i hi).1
    · rcases hi with rfl | rfl | hi
      · exact (lo _ a1).2
      · exact (lo _ a2).2
      · exact (nv i hi).2
  · have hi := (List.getElem?_eq_some_iff.1 h4).1
    rw [List.getElem?_set_ne (by omega)]
    exact w5 i b (lo i hi).1 (lo i hi).2 (h.keep i b h1 h2 h3 h4)
def LS (R B : List Int) (i : Nat) (lb : Bool) : Prop := (lb = false ∧ B ≠ [] ∧ R.take i = B.take i) ∨ (lb = true ∧ (B = [] ∨ Lt R B))
theorem LS.eq {R B : List Int} {i : Nat} {a b : Int} (h : LS R B i false) (ha : R[i]? = some a) (hb : B[i]? = some b) (e : a = b) : LS R B (i + 1) false := by
  rcases h with ⟨-, h1, h2⟩ | ⟨h, -⟩
  · exact .inl ⟨rfl, h1, by rw [take_snoc ha, take_snoc hb, h2, e]⟩
  · cases h
theorem LS.lt {R B : List Int} {i : Nat} {a b : Int} (h : LS R B i false) (ha : R[i]? = some a) (hb : B[i]? = some b) (e : a < b) : LS R B (i + 1) true := by
  rcases h with ⟨-, h1, h2⟩ | ⟨h, -⟩
  · exact .inr ⟨rfl, .inr ((lt_at h2 ha hb (by omega)).2 e)⟩
  · cases h
theorem LS.gt {R B : List Int} {i : Nat} {a b : Int} (h : LS R B i false) (ha : R[i]? = some a) (hb : B[i]? = some b) (e : b < a) : B ≠ [] ∧ ¬ Lt R B ∧ R ≠ B := by
  rcases h with ⟨-, h1, h2⟩ | ⟨h, -⟩
  · exact ⟨h1, fun hc => by have := (lt_at h2 ha hb (by omega)).1 hc; omega, fun e2 => by rw [e2, hb] at ha; have := Option.some.inj ha; omega⟩
  · cases h
theorem LS.tr {R B : List Int} {i : Nat} (h : LS R B i true) : LS R B (i + 1) true := by
  rcases h with ⟨h, -⟩ | h
  · cases h
  · exact .inr h
end Go.PI
