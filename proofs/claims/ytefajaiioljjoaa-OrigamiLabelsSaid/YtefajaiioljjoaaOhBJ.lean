/- Own work of the verifier: OgAf. -/
import Derived.Test.YtefajaiioljjoaaOhBI
set_option linter.all false
set_option exponentiation.threshold 3000
set_option linter.deprecated false
/- A NUMBERING that may come first. -/
open Go.Proofs
namespace Go.PI
open IM
set_option maxRecDepth 10000
set_option maxHeartbeats 4000000
variable (S : FuncId → Option (List AV → Heap → Option (AV × Heap)))
theorem pnil : pO [] [] = .agg [.lst 0 [], .lst 0 []] := rfl
theorem fz2 {σ : List StB} {vr vu : PV} {X Y : List Nat} (cr : Cn pnn vr σ X) (cu : Cn pnn vu σ Y) : ∃ σ2, Fz (.agg [vr, vu]) σ (pO (NL X) (NL Y)) σ2 ∧ ∀ i b, blkOf vr ≠ some i → blkOf vu ≠ some i → σ[i]? = some b → σ2[i]? = some b := by
  obtain ⟨σ1, f1, c1, l1, k1⟩ := cr.fz
  obtain ⟨σ2, f2, c2, l2, k2⟩ := (cu.same c1).fz
  rw [pIs_NL] at f1 f2
  have h1 : ∀ K : PV → List StB → Prop, K (pIs (NL X)) σ1 → frzK σ vr K := fun K hK => by
    have := f1 K hK
    rcases cr with ⟨rfl, -⟩ | ⟨j, ty, -, rfl | rfl⟩ <;> exact this
  have h2 : ∀ K : PV → List StB → Prop, K (pIs (NL Y)) σ2 → frzK σ1 vu K := fun K hK => by
    have := f2 K hK
    rcases cu with ⟨rfl, -⟩ | ⟨j, ty, -, rfl | rfl⟩ <;> exact this
  exact ⟨σ2, fun K hK => h1 (fun p σ' => frzsK σ' [vu] fun ps σ'' => K (.agg (p :: ps)) σ'') (h2 (fun p σ'' => K (.agg [pIs (NL X), p]) σ'') hK), fun i b a1 a2 hb => k2 i b a2 (k1 i b a1 hb)⟩
theorem ML.fin {σ0 σ σa : List StB} {j m : Nat} {v0 v vr vu : PV} {L4 L5 L6 : Nat} {P4 P5 : List PV} {xs X Y : List Nat} (h : ML σ0 σ j m v0 v vr vu L4 L5 L6 P4 P5 xs X Y) (ka : ∀ i b, blkOf vu ≠ some i → σ[i]? = some b → σa[i]? = some b) (cr : Cn pnn vr σa X) (cu : Cn pnn vu σa Y) :
    ∃ σ2, Fz (.agg [vr, vu]) σa (pO (NL X) (NL Y)) σ2 ∧ Num σ2 j m v xs ∧ (∀ (i : Nat) (b : StB), i ≠ j → i ≠ m → blkOf v0 ≠ some i → σ0[i]? = some b → σ2[i]? = some b) ∧ ∀ i b, σ.length ≤ i → σa[i]? = some b → σ2[i]? = some b := by
  obtain ⟨σ2, f2, k2⟩ := fz2 cr cu
  have lo : ∀ i, i < σ0.length → blkOf vr ≠ some i ∧ blkOf vu ≠ some i := fun i hi => ⟨fun e => by have := (h.o1.out i e).1; omega, fun e => by have := (h.o2.out i e).1; omega⟩
  have nv : ∀ q, blkOf v = some q → blkOf vr ≠ some q ∧ blkOf vu ≠ some q := fun q hq => ⟨fun e => (h.o1.out _ e).2.2.2.2.2 hq, fun e => (h.o2.out _ e).2.2.2.2.2 hq⟩
  refine ⟨σ2, f2, h.num.keep fun i b hi hb => ?_, fun i b h1 h2 h3 h4 => ?_, fun i b hi hb => k2 i b (fun e => by have := (h.o1.out i e).2.1; omega) (fun e => by have := (h.o2.out i e).2.1; omega) hb⟩
  · have hh : blkOf vr ≠ some i ∧ blkOf vu ≠ some i := by
      rcases hi with rfl | rfl | hi
      · exact lo _ h.jl
      · exact lo _ h.ml
      · exact nv i hi
    exact k2 i b hh.1 hh.2 (ka i b hh.2 hb)
  · have hh := lo i (List.getElem?_eq_some_iff.1 h4).1
    exact k2 i b hh.1 hh.2 (ka i b hh.2 (h.keep i b h1 h2 h3 h4))
theorem set_same {σ : List StB} {q : Nat} {x : StB} (h : σ[q]? = some x) : σ.set q x = σ := by
  apply List.ext_getElem?
  intro i
  by_cases e : q = i
  · subst e
    rw [List.getElem?_set_self (List.getElem?_eq_some_iff.1 h).1, h]
  · rw [List.getElem?_set_ne e]
theorem sm_agg {vr vu : PV} {σ : List StB} {X Y : List Nat} (h1 : Gr pnn 3 vr σ X) (h2 : Gr pnn 3 vu σ Y) : smP (.agg [vr, vu]) = true := by
  rcases h1 with ⟨rfl, -⟩ | ⟨_, _, rfl, -⟩ | ⟨_, rfl, -⟩ <;> rcases h2 with ⟨rfl, -⟩ | ⟨_, _, rfl, -⟩ | ⟨_, rfl, -⟩ <;> rfl
theorem fn115 : ctx.fn 115 = some c115 := by kernel_rfl
theorem makeLess_cm (hS : OldO S) {σ : List StB} {j m : Nat} {v0 : PV} {r u : List Int} {n s : Nat} {f f' g g' : Nat → Nat} {bR bU : List Int} (ho : IsO r u n f f' g g') (hc : Conn n f g) (hs : s < n) (h : Num σ j m v0 [s]) (hb : (bR = [] ∧ bU = []) ∨ (bR.length = n ∧ bU.length = n)) :
    Cm (ctx.plus S) 115 [.optr j 0, pO r u, pO bR bU] σ 20000 fun w σ' => ∃ v' q bb R' U', w = .tup [q, .bool bb] ∧ (bb = true ↔ (bR = [] ∨ Lt (Rs f g n s ++ Us f g n s) (bR ++ bU))) ∧ σ'.length ≠ j ∧ σ'.length ≠ m ∧ blkOf v' ≠ some σ'.length ∧ σ.length ≤ σ'.length ∧ (∀ i, i < σ.length → blkOf v0 ≠ some i → blkOf v' ≠ some i) ∧ ∀ b0, ∃ σ2, Fz q (σ' ++ [b0]) (pO R' U') σ2 ∧ (bb = true → R' = Rs f g n s ∧ U' = Us f g n s ∧ Num σ2 j m v' (bfs f g s n)) ∧
      (∀ (i : Nat) (b : StB), i ≠ j → i ≠ m → blkOf v0 ≠ some i → σ[i]? = some b → σ2[i]? = some b) ∧ σ2[σ'.length]? = some b0 := by
  have hn := ho.le
  have h0 := ho.pos
  have hlen := fun i => bfs_len (s := s) ho.pr ho.pu hs i
  have hjl := h.jl
  have hml := h.ml
  have hbl : bR.length ≤ 60 := by rcases hb with ⟨h, -⟩ | ⟨h, -⟩ <;> rw [h] <;> first | omega | (simp; done) | (simp; omega)
  have hul : bU.length ≤ 60 := by rcases hb with ⟨-, h⟩ | ⟨-, h⟩ <;> rw [h] <;> first | omega | (simp; done) | (simp; omega)
  refine cm_of Oren (hS 115 (by decide)) fn115 fun c k0 hcc => ?_
  refine ⟨by omega, by omega, ?_⟩
  refine ⟨by omega, ?_⟩
  have p5 : (σ ++ [StB.liv 24 (pO r u).pcells] ++ [StB.liv 24 (pO bR bU).pcells] ++ [StB.liv 24 [.nils, .nils]])[(σ ++ [StB.liv 24 (pO r u).pcells]).length]? = some (StB.liv 24 [pIs bR, pIs bU]) := push_old push_get
  refine ⟨_, load_liv p5 rfl rfl, ?_⟩
  have hML : ML σ (σ ++ [StB.liv 24 (pO r u).pcells] ++ [StB.liv 24 (pO bR bU).pcells] ++ [StB.liv 24 [.nils, .nils]]) j m v0 v0 .nils .nils σ.length (σ ++ [StB.liv 24 (pO r u).pcells]).length (σ ++ [StB.liv 24 (pO r u).pcells] ++ [StB.liv 24 (pO bR bU).pcells]).length [pIs r, pIs u] [pIs bR, pIs bU] (bfs f g s 0) (Xi f g n s 0) (Yi f g n s 0) :=
    ⟨hjl, hml, Nat.le_refl _, by simp, by simp, push_old (push_old push_get), p5, push_get, h.push.push.push, fun i b _ _ _ hh => push_old (push_old (push_old hh)), by simp, fun i _ hh => hh, fun e => by have := h.gr.blk e; omega, fun e => by have := h.gr.blk e; simp at this; omega, fun e => by have := h.gr.blk e; simp at this; omega, .nil, .nil, fun q hq => by (cases hq), ⟨fun q hq => by (cases hq)⟩, ⟨fun q hq => by (cases hq)⟩⟩
  refine ⟨fun he => ?_, fun he => ?_⟩
  all_goals
    refine ⟨fun q st => ∃ (i b L4 L5 L6 : Nat) (lb : Bool) (v vr vu : PV) (σ' : List StB) (T : List PV), st = ⟨T, σ', b⟩ ∧ Gt T 65 [(0, .optr j 0), (4, .optr L4 0), (5, .optr L5 0), (6, .optr L6 0), (8, .bool lb), (9, pn i)] ∧ q = n - i ∧ i ≤ n ∧ b ≤ k0 + 10 + 60 * i ∧ Hid (ML σ σ' j m v0 v vr vu L4 L5 L6 [pIs r, pIs u] [pIs bR, pIs bU] (bfs f g s i) (Xi f g n s i) (Yi f g n s i) ∧ LS (Rs f g n s) bR i lb), ⟨_, ci ⟨0, _, _, _, _, _, v0, .nils, .nils, _, _, rfl, ⟨rfl, rfl, rfl, rfl, rfl, rfl, rfl, trivial⟩, rfl, Nat.zero_le _, by omega, ⟨hML, by
      first
        | exact .inr ⟨rfl, .inl (List.length_eq_zero_iff.1 (by omega))⟩
        | exact .inl ⟨rfl, fun e => by rw [e] at he; simp at he, rfl⟩⟩⟩⟩, ?_⟩
    rintro _ st ⟨i, b, L4, L5, L6, lb, v, vr, vu, σ', T, rfl, hT, rfl, hi, hbb, hh⟩
    obtain ⟨J, rfl⟩ := gt_open hT
    clear hT
    obtain ⟨hM, hLS⟩ := hh.h
    clear hh
    obtain ⟨jv, ty, hcv, hv⟩ := hM.num.gr.shape hM.num.ne
    have hliv := hM.num.liv
    have hL := hlen i
    rcases hv with hv | hv
    all_goals
      rw [hv] at hliv
      refine ⟨_, load_liv hliv rfl rfl, ?_⟩
      refine ⟨fun hlt => ?_, fun hge => ?_⟩
      · have hil : i < (bfs f g s i).length := by omega
        have hin : i < n := by omega
        obtain ⟨x, hx⟩ : ∃ x, (bfs f g s i)[i]? = some x := ⟨_, List.getElem?_eq_getElem hil⟩
        have hxe : x = es f g n s i := by
          have h1 := bfs_get (k := n - i) hx
          rw [show i + (n - i) = n by omega, es_get ho.pr ho.pu h0 hs hc hin] at h1
          exact (Option.some.inj h1).symm
        have hxn := bfs_lt ho.pr ho.pu hs i x (List.mem_of_getElem? hx)
        have hnx : bfs f g s (i + 1) = addL (addL (bfs f g s i) (f x)) (g x) := nxt_at hx
        have m1 : f x ∈ bfs f g s (i + 1) := by rw [hnx, addL_mem, addL_mem]; exact .inl (.inr rfl)
        have m2 : g x ∈ bfs f g s (i + 1) := by rw [hnx, addL_mem]; exact .inr rfl
        have i1 : (addL (addL (bfs f g s i) (f x)) (g x)).idxOf (f x) = rn (es f g n s) (ei f g n s) f i := by rw [← hnx, bfs_idx (n := n) (by omega) m1, hxe]; rfl
        have i2 : (addL (addL (bfs f g s i) (f x)) (g x)).idxOf (g x) = rn (es f g n s) (ei f g n s) g i := by rw [← hnx, bfs_idx (n := n) (by omega) m2, hxe]; rfl
        have hRi : (Rs f g n s)[i]? = some (rn (es f g n s) (ei f g n s) f i : Int) := PL_get hin
        obtain ⟨a, ha⟩ : ∃ a : Nat, rn (es f g n s) (ei f g n s) f i = a := ⟨_, rfl⟩
        obtain ⟨a2, ha2⟩ : ∃ a : Nat, rn (es f g n s) (ei f g n s) g i = a := ⟨_, rfl⟩
        rw [ha] at i1 hRi
        rw [ha2] at i2
        have hX1 : Xi f g n s (i + 1) = Xi f g n s i ++ [a] := by rw [Xi_succ, ha]
        have hY1 : Yi f g n s (i + 1) = Yi f g n s i ++ [a2] := by rw [Yi_succ, ha2]
        refine ⟨_, load_liv hM.c4 rfl rfl, ?_⟩
        refine callm (around_cm S hS ho hM.num (by omega) hx hxn) (by omega) ?_
        rintro _ σ2 ⟨v2, rfl, e1, e2⟩
        rw [i1, i2]
        have hM2 := (hM.around e1 e2).push (b := StB.live 107 [pnn a, pnn a2])
        rw [← hnx] at hM2
        clear hM e1 e2 hliv hcv hv
        refine ⟨by omega, ?_⟩
        refine ⟨_, _, push_get, ⟨rfl, Nat.le_of_ble_eq_true rfl, rfl⟩, _, rfl, _, push_set, ?_⟩
        cases lb with
        | true =>
          refine ⟨by kernel_rfl, ?_⟩
          refine ⟨by kernel_rfl, ?_⟩
          refine ⟨_, load_liv hM2.c6 rfl rfl, ?_⟩
          refine ⟨_, load_c push_cont rfl rfl, ?_⟩
          refine callm (with_cm S hS (a := a) (b := a2) hM2.gr hM2.gu hM2.sep (by rw [Xi_len]; omega) (by rw [Yi_len]; omega)) (by omega) ?_
          rintro _ σ3 ⟨vr', vu', rfl, w1, w2, w3, w4, w5, w6⟩
          have hM3 := hM2.with w1 w2 w3 w4 w5 w6
          rw [← hX1, ← hY1] at hM3
          have k6 := w5 L6 _ (fun e => (hM2.o1.out _ e).2.2.2.2.1 rfl) (fun e => (hM2.o2.out _ e).2.2.2.2.1 rfl) hM2.c6
          refine ⟨_, _, k6, ⟨rfl, Nat.le_of_ble_eq_true rfl, by show (vr'.one && (vu'.one && true)) = true; rw [w1.cell.2, w2.cell.2]; rfl⟩, _, rfl, _, rfl, ?_⟩
          refine ⟨⟨by omega, by omega⟩, ?_⟩
          exact ⟨_, by omega, ci ⟨i + 1, _, L4, L5, L6, true, v2, vr', vu', _, _, rfl, ⟨rfl, rfl, rfl, rfl, rfl, rfl, rfl, trivial⟩, rfl, by omega, by omega, ⟨hM3, (hLS.tr)⟩⟩⟩
        | false =>
          obtain ⟨y, hy⟩ : ∃ y, bR[i]? = some y := by
            have : bR ≠ [] := by
              rcases hLS with ⟨-, h1, -⟩ | ⟨h, -⟩
              · exact h1
              · cases h
            have hbn : bR.length = n := by
              rcases hb with ⟨h1, -⟩ | ⟨h1, -⟩
              · exact absurd h1 this
              · exact h1
            exact ⟨_, List.getElem?_eq_getElem (by omega)⟩
          have hyl := (List.getElem?_eq_some_iff.1 hy).1
          refine ⟨by kernel_rfl, ?_⟩
          refine ⟨⟨by omega, by omega⟩, ?_⟩
          refine ⟨_, load_k rfl rfl push_cont (show [pnn a, pnn a2][0]? = some (pnn a) from rfl) (by rfl), rfl, ?_⟩
          refine ⟨_, load_liv hM2.c5 rfl rfl, rfl, ?_⟩
          refine ⟨⟨⟨by omega, by omega⟩, len_map_le (by omega)⟩, ?_⟩
          refine ⟨_, ld (at_map hy) (by show _ * 1 = i; omega), rfl, ?_⟩
          refine ⟨fun hgt => ?_, fun hle => ?_⟩
          · obtain ⟨q1, q2, q3⟩ := hLS.gt hRi hy (by omega)
            refine ⟨_, rfl, ?_⟩
            refine ⟨_, _, hM2.c6, ⟨rfl, Nat.le_of_ble_eq_true rfl, rfl⟩, _, rfl, _, rfl, ?_⟩
            refine ⟨_, load_liv (List.getElem?_set_self hM2.lt6) rfl rfl, ?_⟩
            have z1 : j < σ2.length + 1 := by have := hM2.num.jl; simpa using this
            have z2 : m < σ2.length + 1 := by have := hM2.num.ml; simpa using this
            refine endm [] (by dsimp only; omega) ⟨v2, _, false, [], [], rfl, ⟨(fun h => by cases h), fun h => ?_⟩, by simp only [List.length_set, List.length_append, List.length_cons, List.length_nil]; omega, by simp only [List.length_set, List.length_append, List.length_cons, List.length_nil]; omega, fun e => by have := hM2.num.gr.blk e; simp only [List.length_set, List.length_append, List.length_cons, List.length_nil] at this; omega, by simp only [List.length_set]; exact hM2.len, hM2.old, fun b0 => ⟨_, (fun K hK => hK), (fun h => by cases h), fun i' b' h1 h2 h3 h4 => push_old ?_, push_get⟩⟩
            · rcases h with h | h
              · exact absurd h q1
              · have hbn : bR.length = n ∧ bU.length = n := by
                  rcases hb with ⟨h1, -⟩ | h1
                  · exact absurd h1 q1
                  · exact h1
                rcases (lt_app (by rw [Rs_len, hbn.1]) (by rw [Us_len, hbn.2])).1 h with h | h
                · exact absurd h q2
                · exact absurd h.1 q3
            · have := (List.getElem?_eq_some_iff.1 h4).1
              have := hM2.l4
              have := hM2.l5
              have := hM2.l6
              rw [List.getElem?_set_ne (by omega)]
              exact hM2.keep i' b' h1 h2 h3 h4
          · refine ⟨by kernel_rfl, ?_⟩
            refine ⟨⟨by omega, by omega⟩, ?_⟩
            refine ⟨_, load_k rfl rfl push_cont (show [pnn a, pnn a2][0]? = some (pnn a) from rfl) (by rfl), rfl, ?_⟩
            refine ⟨_, load_liv hM2.c5 rfl rfl, rfl, ?_⟩
            refine ⟨⟨⟨by omega, by omega⟩, len_map_le (by omega)⟩, ?_⟩
            refine ⟨_, ld (at_map hy) (by show _ * 1 = i; omega), rfl, ?_⟩
            refine ⟨fun hlt2 => ?_, fun hge2 => ?_⟩
            · skip
              refine ⟨_, load_liv hM2.c6 rfl rfl, ?_⟩
              refine ⟨_, load_c push_cont rfl rfl, ?_⟩
              refine callm (with_cm S hS (a := a) (b := a2) hM2.gr hM2.gu hM2.sep (by rw [Xi_len]; omega) (by rw [Yi_len]; omega)) (by omega) ?_
              rintro _ σ3 ⟨vr', vu', rfl, w1, w2, w3, w4, w5, w6⟩
              have hM3 := hM2.with w1 w2 w3 w4 w5 w6
              rw [← hX1, ← hY1] at hM3
              have k6 := w5 L6 _ (fun e => (hM2.o1.out _ e).2.2.2.2.1 rfl) (fun e => (hM2.o2.out _ e).2.2.2.2.1 rfl) hM2.c6
              refine ⟨_, _, k6, ⟨rfl, Nat.le_of_ble_eq_true rfl, by show (vr'.one && (vu'.one && true)) = true; rw [w1.cell.2, w2.cell.2]; rfl⟩, _, rfl, _, rfl, ?_⟩
              refine ⟨⟨by omega, by omega⟩, ?_⟩
              exact ⟨_, by omega, ci ⟨i + 1, _, L4, L5, L6, true, v2, vr', vu', _, _, rfl, ⟨rfl, rfl, rfl, rfl, rfl, rfl, rfl, trivial⟩, rfl, by omega, by omega, ⟨hM3, (hLS.lt hRi hy (by omega))⟩⟩⟩
            · skip
              refine ⟨_, load_liv hM2.c6 rfl rfl, ?_⟩
              refine ⟨_, load_c push_cont rfl rfl, ?_⟩
              refine callm (with_cm S hS (a := a) (b := a2) hM2.gr hM2.gu hM2.sep (by rw [Xi_len]; omega) (by rw [Yi_len]; omega)) (by omega) ?_
              rintro _ σ3 ⟨vr', vu', rfl, w1, w2, w3, w4, w5, w6⟩
              have hM3 := hM2.with w1 w2 w3 w4 w5 w6
              rw [← hX1, ← hY1] at hM3
              have k6 := w5 L6 _ (fun e => (hM2.o1.out _ e).2.2.2.2.1 rfl) (fun e => (hM2.o2.out _ e).2.2.2.2.1 rfl) hM2.c6
              refine ⟨_, _, k6, ⟨rfl, Nat.le_of_ble_eq_true rfl, by show (vr'.one && (vu'.one && true)) = true; rw [w1.cell.2, w2.cell.2]; rfl⟩, _, rfl, _, rfl, ?_⟩
              refine ⟨⟨by omega, by omega⟩, ?_⟩
              exact ⟨_, by omega, ci ⟨i + 1, _, L4, L5, L6, false, v2, vr', vu', _, _, rfl, ⟨rfl, rfl, rfl, rfl, rfl, rfl, rfl, trivial⟩, rfl, by omega, by omega, ⟨hM3, (hLS.eq hRi hy (by omega))⟩⟩⟩
      · have hin : i = n := Classical.byContradiction fun hne => by
          have := bfs_more ho.pr ho.pu h0 hs hc (show i < n by omega)
          omega
        rw [hin] at hM hLS hbb
        clear hliv hcv hv
        have one1 := hM.gr.cell.2
        have one2 := hM.gu.cell.2
        have hpon : pones (PV.agg [vr, vu]).pcells = true := by show (vr.one && (vu.one && true)) = true; rw [one1, one2]; rfl
        have hgood : bR ≠ [] → bR.length = n ∧ bU.length = n := fun hne => by
          rcases hb with ⟨h1, -⟩ | h1
          · exact absurd h1 hne
          · exact h1
        cases lb with
        | true =>
          have hG : bR = [] ∨ Lt (Rs f g n s ++ Us f g n s) (bR ++ bU) := by
            rcases hLS with ⟨h1, -⟩ | ⟨-, h1 | h1⟩
            · cases h1
            · exact .inl h1
            · by_cases hne : bR = []
              · exact .inl hne
              · obtain ⟨q1, q2⟩ := hgood hne
                exact .inr ((lt_app (by rw [Rs_len, q1]) (by rw [Us_len, q2])).2 (.inl h1))
          have z1 := hM.num.jl
          have z2 := hM.num.ml
          refine ⟨by kernel_rfl, ?_⟩
          refine ⟨_, load_liv hM.c6 rfl rfl, sm_agg hM.gr hM.gu, ?_⟩
          refine ⟨_, _, hM.c6, ⟨rfl, Nat.le_of_ble_eq_true rfl, hpon⟩, _, rfl, _, set_same hM.c6, ?_⟩
          refine ⟨_, load_liv hM.c6 rfl rfl, ?_⟩
          exact endm [] (by dsimp only; omega) ⟨v, _, true, Rs f g n s, Us f g n s, rfl, ⟨fun _ => hG, fun _ => rfl⟩, by dsimp only; omega, by dsimp only; omega, fun e => by dsimp only at e; have := hM.num.gr.blk e; omega, by dsimp only; have := hM.len; omega, hM.old, fun b0 => by
            obtain ⟨σ2, f2, n2, k2, l2⟩ := hM.fin (σa := σ' ++ [b0]) (fun _ _ _ hb => push_old hb) hM.gr.cn.push hM.gu.cn.push
            rw [Xi_full, Yi_full] at f2
            exact ⟨σ2, f2, fun _ => ⟨rfl, rfl, n2⟩, k2, l2 _ _ (Nat.le_refl _) push_get⟩⟩
        | false =>
          have hE : bR ≠ [] ∧ Rs f g n s = bR := by
            rcases hLS with ⟨-, h1, h2⟩ | ⟨h1, -⟩
            · obtain ⟨q1, q2⟩ := hgood h1
              rw [List.take_of_length_le (by rw [Rs_len]; omega), List.take_of_length_le (by omega)] at h2
              exact ⟨h1, h2⟩
            · cases h1
          obtain ⟨q1, q2⟩ := hgood hE.1
          have hiff : (bR = [] ∨ Lt (Rs f g n s ++ Us f g n s) (bR ++ bU)) ↔ Lt (Us f g n s) bU := by
            rw [lt_app (by rw [Rs_len, q1]) (by rw [Us_len, q2]), hE.2]
            exact ⟨fun h => by rcases h with h | h | h; exact absurd h hE.1; exact absurd h lt_irr; exact h.2, fun h => .inr (.inr ⟨rfl, h⟩)⟩
          obtain ⟨σa, fa, ca, la, ka⟩ := hM.gu.cn.fz
          rw [pIs_NL, Yi_full] at fa
          have z1 := hM.num.jl
          have z2 := hM.num.ml
          have hfin : ∀ b0, ∃ σ2, Fz (.agg [vr, vu]) (σa ++ [b0]) (pO (Rs f g n s) (Us f g n s)) σ2 ∧ Num σ2 j m v (bfs f g s n) ∧ (∀ (i : Nat) (b : StB), i ≠ j → i ≠ m → blkOf v0 ≠ some i → σ[i]? = some b → σ2[i]? = some b) ∧ σ2[σa.length]? = some b0 := fun b0 => by
            obtain ⟨σ2, f2, n2, k2, l2⟩ := hM.fin (σa := σa ++ [b0]) (fun i b h1 h2 => push_old (ka i b h1 h2)) (hM.gr.cn.same ca).push (hM.gu.cn.same ca).push
            rw [Xi_full, Yi_full] at f2
            exact ⟨σ2, f2, n2, k2, l2 _ _ (by omega) push_get⟩
          have c6a := ka L6 _ (fun e => (hM.o2.out _ e).2.2.2.2.1 rfl) hM.c6
          refine ⟨by kernel_rfl, ?_⟩
          refine ⟨_, load_liv hM.c6 rfl rfl, sm_agg hM.gr hM.gu, ?_⟩
          refine ⟨_, load_liv hM.c6 rfl rfl, hM.gu.smP, ?_⟩
          refine ⟨_, load_liv hM.c5 rfl rfl, rfl, ?_⟩
          refine cal2 fa fzL (compareL_ct S hS (xs := Us f g n s) (ys := bU) (by rw [Us_len, q2]) (by rw [Us_len]; omega)) (by omega) ?_
          rintro _ ⟨cv, rfl, hcv⟩
          refine ⟨fun hneg => ?_, fun hpos => ?_⟩
          · refine ⟨_, _, c6a, ⟨rfl, Nat.le_of_ble_eq_true rfl, hpon⟩, _, rfl, _, set_same c6a, ?_⟩
            refine ⟨_, load_liv c6a rfl rfl, ?_⟩
            exact endm [] (by dsimp only; omega) ⟨v, _, true, Rs f g n s, Us f g n s, rfl, ⟨fun _ => hiff.2 (hcv.1 hneg), fun _ => rfl⟩, by dsimp only; omega, by dsimp only; omega, fun e => by dsimp only at e; have := hM.num.gr.blk e; omega, by dsimp only; have := hM.len; omega, hM.old, fun b0 => by
              obtain ⟨σ2, f2, n2, k2, l2⟩ := hfin b0
              exact ⟨σ2, f2, fun _ => ⟨rfl, rfl, n2⟩, k2, l2⟩⟩
          · refine ⟨_, _, c6a, ⟨rfl, Nat.le_of_ble_eq_true rfl, hpon⟩, _, rfl, _, set_same c6a, ?_⟩
            refine ⟨_, load_liv c6a rfl rfl, ?_⟩
            exact endm [] (by dsimp only; omega) ⟨v, _, false, Rs f g n s, Us f g n s, rfl, ⟨(fun h => by cases h), fun h => by have := hcv.2 (hiff.1 h); omega⟩, by dsimp only; omega, by dsimp only; omega, fun e => by dsimp only at e; have := hM.num.gr.blk e; omega, by dsimp only; have := hM.len; omega, hM.old, fun b0 => by
              obtain ⟨σ2, f2, n2, k2, l2⟩ := hfin b0
              exact ⟨σ2, f2, fun h => (by cases h), k2, l2⟩⟩
end Go.PI
