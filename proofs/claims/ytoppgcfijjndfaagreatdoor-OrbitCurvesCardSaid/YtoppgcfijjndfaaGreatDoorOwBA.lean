/- Own work of the verifier: OrAf OrAh OrAg OrCa OrPow OgIso. -/
import Derived.Test.YtoppgcfijjndfaaGreatDoorOwAZ
import Derived.Test.YtoppgcfijjndfaaGreatDoorOwAY
import Derived.Test.YtoppgcfijjndfaaGreatDoorOwAX
set_option linter.all false
set_option exponentiation.threshold 3000
set_option linter.deprecated false
/- A NUMBERING that may come first. -/
open Go.Proofs
namespace Go.PI
open IM
set_option maxRecDepth 10000
set_option maxHeartbeats 4000000
variable (S : FuncId → Option (List AV → Heap → Option (AV × Heap)))
theorem fz2 {σ : List StB} {vr vu : PV} {X Y : List Nat} (cr : Cn pnn vr σ X) (cu : Cn pnn vu σ Y) : ∃ σ2, Fz (.agg [vr, vu]) σ (pO (NL X) (NL Y)) σ2 ∧ ∀ i b, blkOf vr ≠ some i → blkOf vu ≠ some i → σ[i]? = some b → σ2[i]? = some b := by
  obtain ⟨σ1, f1, c1, l1, k1⟩ := cr.fz
  obtain ⟨σ2, f2, c2, l2, k2⟩ := (cu.same c1).fz
  rw [pIs_NL] at f1 f2
  have h1 : ∀ K : PV → List StB → Prop, K (pIs (NL X)) σ1 → frzK σ vr K := fun K hK => by
    have := f1 K hK
    rcases cr with ⟨rfl, -⟩ | ⟨j, ty, -, rfl | rfl⟩ <;> exact this
  have h2 : ∀ K : PV → List StB → Prop, K (pIs (NL Y)) σ2 → frzK σ1 vu K := fun K hK => by
    have := f2 K hK
    rcases cu with ⟨rfl, -⟩ | ⟨j, ty, -, rfl | rfl⟩ <;> exact this
  exact ⟨σ2, fun K hK => h1 (fun p σ' => frzsK σ' [vu] fun ps σ'' => K (.agg (p :: ps)) σ'') (h2 (fun p σ'' => K (.agg [pIs (NL X), p]) σ'') hK), fun i b a1 a2 hb => k2 i b a2 (k1 i b a1 hb)⟩
theorem ML.fin {σ0 σ σa : List StB} {j m : Nat} {v0 v vr vu : PV} {L4 L5 L6 : Nat} {P4 P5 : List PV} {xs X Y : List Nat} (h : ML σ0 σ j m v0 v vr vu L4 L5 L6 P4 P5 xs X Y) (ka : ∀ i b, blkOf vu ≠ some i → σ[i]? = some b → σa[i]? = some b) (cr : Cn pnn vr σa X) (cu : Cn pnn vu σa Y) :
    ∃ σ2, Fz (.agg [vr, vu]) σa (pO (NL X) (NL Y)) σ2 ∧ Num σ2 j m v xs ∧ (∀ (i : Nat) (b : StB), i ≠ j → i ≠ m → blkOf v0 ≠ some i → σ0[i]? = some b → σ2[i]? = some b) ∧ ∀ i b, σ.length ≤ i → σa[i]? = some b → σ2[i]? = some b := by
  obtain ⟨σ2, f2, k2⟩ := fz2 cr cu
  have lo : ∀ i, i < σ0.length → blkOf vr ≠ some i ∧ blkOf vu ≠ some i := fun i hi => ⟨fun e => by have := (h.o1.out i e).1; omega, fun e => by have := (h.o2.out i e).1; omega⟩
  have nv : ∀ q, blkOf v = some q → blkOf vr ≠ some q ∧ blkOf vu ≠ some q := fun q hq => ⟨fun e => (h.o1.out _ e).2.2.2.2.2 hq, fun e => (h.o2.out _ e).2.2.2.2.2 hq⟩
  refine ⟨σ2, f2, h.num.keep fun i b hi hb => ?_, fun i b h1 h2 h3 h4 => ?_, fun i b hi hb => k2 i b (fun e => by have := (h.o1.out i e).2.1; omega) (fun e => by have := (h.o2.out i e).2.1; omega) hb⟩
  · have hh : blkOf vr ≠ some i ∧ blkOf vu ≠ some i := by
      rcases hi with rfl | rfl | hi
      · exact lo _ h.jl
      · exact lo _ h.ml
      · exact nv i hi
    exact k2 i b hh.1 hh.2 (ka i b hh.2 hb)
  · have hh := lo i (List.getElem?_eq_some_iff.1 h4).1
    exact k2 i b hh.1 hh.2 (ka i b hh.2 (h.keep i b h1 h2 h3 h4))
theorem set_same {σ : List StB} {q : Nat} {x : StB} (h : σ[q]? = some x) : σ.set q x = σ := by
  apply List.ext_getElem?
  intro i
  by_cases e : q = i
  · subst e
    rw [List.getElem?_set_self (List.getElem?_eq_some_iff.1 h).1, h]
  · rw [List.getElem?_set_ne e]
theorem sm_agg {vr vu : PV} {σ : List StB} {X Y : List Nat} (h1 : Gr pnn 3 vr σ X) (h2 : Gr pnn 3 vu σ Y) : smP (.agg [vr, vu]) = true := by
  rcases h1 with ⟨rfl, -⟩ | ⟨_, _, rfl, -⟩ | ⟨_, rfl, -⟩ <;> rcases h2 with ⟨rfl, -⟩ | ⟨_, _, rfl, -⟩ | ⟨_, rfl, -⟩ <;> rfl
theorem fn226 : ctx.fn 226 = some c226 := by kernel_rfl
theorem makeLess_cm (hS : OldO S) {σ : List StB} {j m : Nat} {v0 : PV} {r u : List Int} {n s : Nat} {f f' g g' : Nat → Nat} {bR bU : List Int} (ho : IsO r u n f f' g g') (hc : Conn n f g) (hs : s < n) (h : Num σ j m v0 [s]) (hb : (bR = [] ∧ bU = []) ∨ (bR.length = n ∧ bU.length = n)) :
    Cm (ctx.plus S) 226 [.optr j 0, pO r u, pO bR bU] σ 20000 fun w σ' => ∃ v' q bb R' U', w = .tup [q, .bool bb] ∧ (bb = true ↔ (bR = [] ∨ Lt (Rs f g n s ++ Us f g n s) (bR ++ bU))) ∧ σ'.length ≠ j ∧ σ'.length ≠ m ∧ blkOf v' ≠ some σ'.length ∧ σ.length ≤ σ'.length ∧ (∀ i, i < σ.length → blkOf v0 ≠ some i → blkOf v' ≠ some i) ∧ ∀ b0, ∃ σ2, Fz q (σ' ++ [b0]) (pO R' U') σ2 ∧ (bb = true → R' = Rs f g n s ∧ U' = Us f g n s ∧ Num σ2 j m v' (bfs f g s n)) ∧
      (∀ (i : Nat) (b : StB), i ≠ j → i ≠ m → blkOf v0 ≠ some i → σ[i]? = some b → σ2[i]? = some b) ∧ σ2[σ'.length]? = some b0 := by
  have hn := ho.le
  have h0 := ho.pos
  have hlen := fun i => bfs_len (s := s) ho.pr ho.pu hs i
  have hjl := h.jl
  have hml := h.ml
  have hbl : bR.length ≤ 60 := by rcases hb with ⟨h, -⟩ | ⟨h, -⟩ <;> rw [h] <;> first | omega | (simp; done) | (simp; omega)
  have hul : bU.length ≤ 60 := by rcases hb with ⟨-, h⟩ | ⟨-, h⟩ <;> rw [h] <;> first | omega | (simp; done) | (simp; omega)
  refine cm_of Oren (hS 226 (by decide)) fn226 fun c k0 hcc => ?_
  refine ⟨by omega, by omega, ?_⟩
  refine ⟨by omega, ?_⟩
  have p5 : (σ ++ [StB.liv 45 (pO r u).pcells] ++ [StB.liv 45 (pO bR bU).pcells] ++ [StB.liv 45 [.nils, .nils]])[(σ ++ [StB.liv 45 (pO r u).pcells]).length]? = some (StB.liv 45 [pIs bR, pIs bU]) := push_old push_get
  refine ⟨_, load_liv p5 rfl rfl, ?_⟩
  have hML : ML σ (σ ++ [StB.liv 45 (pO r u).pcells] ++ [StB.liv 45 (pO bR bU).pcells] ++ [StB.liv 45 [.nils, .nils]]) j m v0 v0 .nils .nils σ.length (σ ++ [StB.liv 45 (pO r u).pcells]).length (σ ++ [StB.liv 45 (pO r u).pcells] ++ [StB.liv 45 (pO bR bU).pcells]).length [pIs r, pIs u] [pIs bR, pIs bU] (bfs f g s 0) (Xi f g n s 0) (Yi f g n s 0) :=
    ⟨hjl, hml, Nat.le_refl _, by simp, by simp, push_old (push_old push_get), p5, push_get, h.push.push.push, fun i b _ _ _ hh => push_old (push_old (push_old hh)), by simp, fun i _ hh => hh, fun e => by have := h.gr.blk e; omega, fun e => by have := h.gr.blk e; simp at this; omega, fun e => by have := h.gr.blk e; simp at this; omega, .nil, .nil, fun q hq => by (cases hq), ⟨fun q hq => by (cases hq)⟩, ⟨fun q hq => by (cases hq)⟩⟩
  refine ⟨fun he => ?_, fun he => ?_⟩
  all_goals
    refine ⟨fun q st => ∃ (i b L4 L5 L6 : Nat) (lb : Bool) (v vr vu : PV) (σ' : List StB) (T : List PV), st = ⟨T, σ', b⟩ ∧ Gt T 65 [(0, .optr j 0), (4, .optr L4 0), (5, .optr L5 0), (6, .optr L6 0), (8, .bool lb), (9, pn i)] ∧ q = n - i ∧ i ≤ n ∧ b ≤ k0 + 10 + 60 * i ∧ Hid (ML σ σ' j m v0 v vr vu L4 L5 L6 [pIs r, pIs u] [pIs bR, pIs bU] (bfs f g s i) (Xi f g n s i) (Yi f g n s i) ∧ LS (Rs f g n s) bR i lb), ⟨_, ci ⟨0, _, _, _, _, _, v0, .nils, .nils, _, _, rfl, ⟨rfl, rfl, rfl, rfl, rfl, rfl, rfl, trivial⟩, rfl, Nat.zero_le _, by omega, ⟨hML, by
      first
        | exact .inr ⟨rfl, .inl (List.length_eq_zero_iff.1 (by omega))⟩
        | exact .inl ⟨rfl, fun e => by rw [e] at he; simp at he, rfl⟩⟩⟩⟩, ?_⟩
    rintro _ st ⟨i, b, L4, L5, L6, lb, v, vr, vu, σ', T, rfl, hT, rfl, hi, hbb, hh⟩
    obtain ⟨J, rfl⟩ := gt_open hT
    clear hT
    obtain ⟨hM, hLS⟩ := hh.h
    clear hh
    obtain ⟨jv, ty, hcv, hv⟩ := hM.num.gr.shape hM.num.ne
    have hliv := hM.num.liv
    have hL := hlen i
    rcases hv with hv | hv
    all_goals
      rw [hv] at hliv
      refine ⟨_, load_liv hliv rfl rfl, ?_⟩
      refine ⟨fun hlt => ?_, fun hge => ?_⟩
      · have hil : i < (bfs f g s i).length := by omega
        have hin : i < n := by omega
        obtain ⟨x, hx⟩ : ∃ x, (bfs f g s i)[i]? = some x := ⟨_, List.getElem?_eq_getElem hil⟩
        have hxe : x = es f g n s i := by
          have h1 := bfs_get (k := n - i) hx
          rw [show i + (n - i) = n by omega, es_get ho.pr ho.pu h0 hs hc hin] at h1
          exact (Option.some.inj h1).symm
        have hxn := bfs_lt ho.pr ho.pu hs i x (List.mem_of_getElem? hx)
        have hnx : bfs f g s (i + 1) = addL (addL (bfs f g s i) (f x)) (g x) := nxt_at hx
        have m1 : f x ∈ bfs f g s (i + 1) := by rw [hnx, addL_mem, addL_mem]; exact .inl (.inr rfl)
        have m2 : g x ∈ bfs f g s (i + 1) := by rw [hnx, addL_mem]; exact .inr rfl
        have i1 : (addL (addL (bfs f g s i) (f x)) (g x)).idxOf (f x) = rn (es f g n s) (ei f g n s) f i := by rw [← hnx, bfs_idx (n := n) (by omega) m1, hxe]; rfl
        have i2 : (addL (addL (bfs f g s i) (f x)) (g x)).idxOf (g x) = rn (es f g n s) (ei f g n s) g i := by rw [← hnx, bfs_idx (n := n) (by omega) m2, hxe]; rfl
        have hRi : (Rs f g n s)[i]? = some (rn (es f g n s) (ei f g n s) f i : Int) := PL_get hin
        obtain ⟨a, ha⟩ : ∃ a : Nat, rn (es f g n s) (ei f g n s) f i = a := ⟨_, rfl⟩
        obtain ⟨a2, ha2⟩ : ∃ a : Nat, rn (es f g n s) (ei f g n s) g i = a := ⟨_, rfl⟩
        rw [ha] at i1 hRi
        rw [ha2] at i2
        have hX1 : Xi f g n s (i + 1) = Xi f g n s i ++ [a] := by rw [Xi_succ, ha]
        have hY1 : Yi f g n s (i + 1) = Yi f g n s i ++ [a2] := by rw [Yi_succ, ha2]
        refine ⟨_, load_liv hM.c4 rfl rfl, ?_⟩
        refine callm (around_cm S hS ho hM.num (by omega) hx hxn) (by omega) ?_
        rintro _ σ2 ⟨v2, rfl, e1, e2⟩
        rw [i1, i2]
        have hM2 := (hM.around e1 e2).push (b := StB.live 174 [pnn a, pnn a2])
        rw [← hnx] at hM2
        clear hM e1 e2 hliv hcv hv
        refine ⟨by omega, ?_⟩
        refine ⟨_, _, push_get, ⟨rfl, Nat.le_of_ble_eq_true rfl, rfl⟩, _, rfl, _, push_set, ?_⟩
        cases lb with
        | true =>
          refine ⟨by kernel_rfl, ?_⟩
          refine ⟨by kernel_rfl, ?_⟩
          refine ⟨_, load_liv hM2.c6 rfl rfl, ?_⟩
          refine ⟨_, load_c push_cont rfl rfl, ?_⟩
          refine callm (with_cm S hS (a := a) (b := a2) hM2.gr hM2.gu hM2.sep (by rw [Xi_len]; omega) (by rw [Yi_len]; omega)) (by omega) ?_
          rintro _ σ3 ⟨vr', vu', rfl, w1, w2, w3, w4, w5, w6⟩
          have hM3 := hM2.with w1 w2 w3 w4 w5 w6
          rw [← hX1, ← hY1] at hM3
          have k6 := w5 L6 _ (fun e => (hM2.o1.out _ e).2.2.2.2.1 rfl) (fun e => (hM2.o2.out _ e).2.2.2.2.1 rfl) hM2.c6
          refine ⟨_, _, k6, ⟨rfl, Nat.le_of_ble_eq_true rfl, by show (vr'.one && (vu'.one && true)) = true; rw [w1.cell.2, w2.cell.2]; rfl⟩, _, rfl, _, rfl, ?_⟩
          refine ⟨⟨by omega, by omega⟩, ?_⟩
          exact ⟨_, by omega, ci ⟨i + 1, _, L4, L5, L6, true, v2, vr', vu', _, _, rfl, ⟨rfl, rfl, rfl, rfl, rfl, rfl, rfl, trivial⟩, rfl, by omega, by omega, ⟨hM3, (hLS.tr)⟩⟩⟩
        | false =>
          obtain ⟨y, hy⟩ : ∃ y, bR[i]? = some y := by
            have : bR ≠ [] := by
              rcases hLS with ⟨-, h1, -⟩ | ⟨h, -⟩
              · exact h1
              · cases h
            have hbn : bR.length = n := by
              rcases hb with ⟨h1, -⟩ | ⟨h1, -⟩
              · exact absurd h1 this
              · exact h1
            exact ⟨_, List.getElem?_eq_getElem (by omega)⟩
          have hyl := (List.getElem?_eq_some_iff.1 hy).1
          refine ⟨by kernel_rfl, ?_⟩
          refine ⟨⟨by omega, by omega⟩, ?_⟩
          refine ⟨_, load_k rfl rfl push_cont (show [pnn a, pnn a2][0]? = some (pnn a) from rfl) (by rfl), rfl, ?_⟩
          refine ⟨_, load_liv hM2.c5 rfl rfl, rfl, ?_⟩
          refine ⟨⟨⟨by omega, by omega⟩, len_map_le (by omega)⟩, ?_⟩
          refine ⟨_, ld (at_map hy) (by show _ * 1 = i; omega), rfl, ?_⟩
          refine ⟨fun hgt => ?_, fun hle => ?_⟩
          · obtain ⟨q1, q2, q3⟩ := hLS.gt hRi hy (by omega)
            refine ⟨_, rfl, ?_⟩
            refine ⟨_, _, hM2.c6, ⟨rfl, Nat.le_of_ble_eq_true rfl, rfl⟩, _, rfl, _, rfl, ?_⟩
            refine ⟨_, load_liv (List.getElem?_set_self hM2.lt6) rfl rfl, ?_⟩
            have z1 : j < σ2.length + 1 := by have := hM2.num.jl; simpa using this
            have z2 : m < σ2.length + 1 := by have := hM2.num.ml; simpa using this
            refine endm [] (by dsimp only; omega) ⟨v2, _, false, [], [], rfl, ⟨(fun h => by cases h), fun h => ?_⟩, by simp only [List.length_set, List.length_append, List.length_cons, List.length_nil]; omega, by simp only [List.length_set, List.length_append, List.length_cons, List.length_nil]; omega, fun e => by have := hM2.num.gr.blk e; simp only [List.length_set, List.length_append, List.length_cons, List.length_nil] at this; omega, by simp only [List.length_set]; exact hM2.len, hM2.old, fun b0 => ⟨_, (fun K hK => hK), (fun h => by cases h), fun i' b' h1 h2 h3 h4 => push_old ?_, push_get⟩⟩
            · rcases h with h | h
              · exact absurd h q1
              · have hbn : bR.length = n ∧ bU.length = n := by
                  rcases hb with ⟨h1, -⟩ | h1
                  · exact absurd h1 q1
                  · exact h1
                rcases (lt_app (by rw [Rs_len, hbn.1]) (by rw [Us_len, hbn.2])).1 h with h | h
                · exact absurd h q2
                · exact absurd h.1 q3
            · have := (List.getElem?_eq_some_iff.1 h4).1
              have := hM2.l4
              have := hM2.l5
              have := hM2.l6
              rw [List.getElem?_set_ne (by omega)]
              exact hM2.keep i' b' h1 h2 h3 h4
          · refine ⟨by kernel_rfl, ?_⟩
            refine ⟨⟨by omega, by omega⟩, ?_⟩
            refine ⟨_, load_k rfl rfl push_cont (show [pnn a, pnn a2][0]? = some (pnn a) from rfl) (by rfl), rfl, ?_⟩
            refine ⟨_, load_liv hM2.c5 rfl rfl, rfl, ?_⟩
            refine ⟨⟨⟨by omega, by omega⟩, len_map_le (by omega)⟩, ?_⟩
            refine ⟨_, ld (at_map hy) (by show _ * 1 = i; omega), rfl, ?_⟩
            refine ⟨fun hlt2 => ?_, fun hge2 => ?_⟩
            · skip
              refine ⟨_, load_liv hM2.c6 rfl rfl, ?_⟩
              refine ⟨_, load_c push_cont rfl rfl, ?_⟩
              refine callm (with_cm S hS (a := a) (b := a2) hM2.gr hM2.gu hM2.sep (by rw [Xi_len]; omega) (by rw [Yi_len]; omega)) (by omega) ?_
              rintro _ σ3 ⟨vr', vu', rfl, w1, w2, w3, w4, w5, w6⟩
              have hM3 := hM2.with w1 w2 w3 w4 w5 w6
              rw [← hX1, ← hY1] at hM3
              have k6 := w5 L6 _ (fun e => (hM2.o1.out _ e).2.2.2.2.1 rfl) (fun e => (hM2.o2.out _ e).2.2.2.2.1 rfl) hM2.c6
              refine ⟨_, _, k6, ⟨rfl, Nat.le_of_ble_eq_true rfl, by show (vr'.one && (vu'.one && true)) = true; rw [w1.cell.2, w2.cell.2]; rfl⟩, _, rfl, _, rfl, ?_⟩
              refine ⟨⟨by omega, by omega⟩, ?_⟩
              exact ⟨_, by omega, ci ⟨i + 1, _, L4, L5, L6, true, v2, vr', vu', _, _, rfl, ⟨rfl, rfl, rfl, rfl, rfl, rfl, rfl, trivial⟩, rfl, by omega, by omega, ⟨hM3, (hLS.lt hRi hy (by omega))⟩⟩⟩
            · skip
              refine ⟨_, load_liv hM2.c6 rfl rfl, ?_⟩
              refine ⟨_, load_c push_cont rfl rfl, ?_⟩
              refine callm (with_cm S hS (a := a) (b := a2) hM2.gr hM2.gu hM2.sep (by rw [Xi_len]; omega) (by rw [Yi_len]; omega)) (by omega) ?_
              rintro _ σ3 ⟨vr', vu', rfl, w1, w2, w3, w4, w5, w6⟩
              have hM3 := hM2.with w1 w2 w3 w4 w5 w6
              rw [← hX1, ← hY1] at hM3
              have k6 := w5 L6 _ (fun e => (hM2.o1.out _ e).2.2.2.2.1 rfl) (fun e => (hM2.o2.out _ e).2.2.2.2.1 rfl) hM2.c6
              refine ⟨_, _, k6, ⟨rfl, Nat.le_of_ble_eq_true rfl, by show (vr'.one && (vu'.one && true)) = true; rw [w1.cell.2, w2.cell.2]; rfl⟩, _, rfl, _, rfl, ?_⟩
              refine ⟨⟨by omega, by omega⟩, ?_⟩
              exact ⟨_, by omega, ci ⟨i + 1, _, L4, L5, L6, false, v2, vr', vu', _, _, rfl, ⟨rfl, rfl, rfl, rfl, rfl, rfl, rfl, trivial⟩, rfl, by omega, by omega, ⟨hM3, (hLS.eq hRi hy (by omega))⟩⟩⟩
      · have hin : i = n := Classical.byContradiction fun hne => by
          have := bfs_more ho.pr ho.pu h0 hs hc (show i < n by omega)
          omega
        rw [hin] at hM hLS hbb
        clear hliv hcv hv
        have one1 := hM.gr.cell.2
        have one2 := hM.gu.cell.2
        have hpon : pones (PV.agg [vr, vu]).pcells = true := by show (vr.one && (vu.one && true)) = true; rw [one1, one2]; rfl
        have hgood : bR ≠ [] → bR.length = n ∧ bU.length = n := fun hne => by
          rcases hb with ⟨h1, -⟩ | h1
          · exact absurd h1 hne
          · exact h1
        cases lb with
        | true =>
          have hG : bR = [] ∨ Lt (Rs f g n s ++ Us f g n s) (bR ++ bU) := by
            rcases hLS with ⟨h1, -⟩ | ⟨-, h1 | h1⟩
            · cases h1
            · exact .inl h1
            · by_cases hne : bR = []
              · exact .inl hne
              · obtain ⟨q1, q2⟩ := hgood hne
                exact .inr ((lt_app (by rw [Rs_len, q1]) (by rw [Us_len, q2])).2 (.inl h1))
          have z1 := hM.num.jl
          have z2 := hM.num.ml
          refine ⟨by kernel_rfl, ?_⟩
          refine ⟨_, load_liv hM.c6 rfl rfl, sm_agg hM.gr hM.gu, ?_⟩
          refine ⟨_, _, hM.c6, ⟨rfl, Nat.le_of_ble_eq_true rfl, hpon⟩, _, rfl, _, set_same hM.c6, ?_⟩
          refine ⟨_, load_liv hM.c6 rfl rfl, ?_⟩
          exact endm [] (by dsimp only; omega) ⟨v, _, true, Rs f g n s, Us f g n s, rfl, ⟨fun _ => hG, fun _ => rfl⟩, by dsimp only; omega, by dsimp only; omega, fun e => by dsimp only at e; have := hM.num.gr.blk e; omega, by dsimp only; have := hM.len; omega, hM.old, fun b0 => by
            obtain ⟨σ2, f2, n2, k2, l2⟩ := hM.fin (σa := σ' ++ [b0]) (fun _ _ _ hb => push_old hb) hM.gr.cn.push hM.gu.cn.push
            rw [Xi_full, Yi_full] at f2
            exact ⟨σ2, f2, fun _ => ⟨rfl, rfl, n2⟩, k2, l2 _ _ (Nat.le_refl _) push_get⟩⟩
        | false =>
          have hE : bR ≠ [] ∧ Rs f g n s = bR := by
            rcases hLS with ⟨-, h1, h2⟩ | ⟨h1, -⟩
            · obtain ⟨q1, q2⟩ := hgood h1
              rw [List.take_of_length_le (by rw [Rs_len]; omega), List.take_of_length_le (by omega)] at h2
              exact ⟨h1, h2⟩
            · cases h1
          obtain ⟨q1, q2⟩ := hgood hE.1
          have hiff : (bR = [] ∨ Lt (Rs f g n s ++ Us f g n s) (bR ++ bU)) ↔ Lt (Us f g n s) bU := by
            rw [lt_app (by rw [Rs_len, q1]) (by rw [Us_len, q2]), hE.2]
            exact ⟨fun h => by rcases h with h | h | h; exact absurd h hE.1; exact absurd h lt_irr; exact h.2, fun h => .inr (.inr ⟨rfl, h⟩)⟩
          obtain ⟨σa, fa, ca, la, ka⟩ := hM.gu.cn.fz
          rw [pIs_NL, Yi_full] at fa
          have z1 := hM.num.jl
          have z2 := hM.num.ml
          have hfin : ∀ b0, ∃ σ2, Fz (.agg [vr, vu]) (σa ++ [b0]) (pO (Rs f g n s) (Us f g n s)) σ2 ∧ Num σ2 j m v (bfs f g s n) ∧ (∀ (i : Nat) (b : StB), i ≠ j → i ≠ m → blkOf v0 ≠ some i → σ[i]? = some b → σ2[i]? = some b) ∧ σ2[σa.length]? = some b0 := fun b0 => by
            obtain ⟨σ2, f2, n2, k2, l2⟩ := hM.fin (σa := σa ++ [b0]) (fun i b h1 h2 => push_old (ka i b h1 h2)) (hM.gr.cn.same ca).push (hM.gu.cn.same ca).push
            rw [Xi_full, Yi_full] at f2
            exact ⟨σ2, f2, n2, k2, l2 _ _ (by omega) push_get⟩
          have c6a := ka L6 _ (fun e => (hM.o2.out _ e).2.2.2.2.1 rfl) hM.c6
          refine ⟨by kernel_rfl, ?_⟩
          refine ⟨_, load_liv hM.c6 rfl rfl, sm_agg hM.gr hM.gu, ?_⟩
          refine ⟨_, load_liv hM.c6 rfl rfl, hM.gu.smP, ?_⟩
          refine ⟨_, load_liv hM.c5 rfl rfl, rfl, ?_⟩
          refine cal2 fa fzL (compareL_ct S hS (xs := Us f g n s) (ys := bU) (by rw [Us_len, q2]) (by rw [Us_len]; omega)) (by omega) ?_
          rintro _ ⟨cv, rfl, hcv⟩
          refine ⟨fun hneg => ?_, fun hpos => ?_⟩
          · refine ⟨_, _, c6a, ⟨rfl, Nat.le_of_ble_eq_true rfl, hpon⟩, _, rfl, _, set_same c6a, ?_⟩
            refine ⟨_, load_liv c6a rfl rfl, ?_⟩
            exact endm [] (by dsimp only; omega) ⟨v, _, true, Rs f g n s, Us f g n s, rfl, ⟨fun _ => hiff.2 (hcv.1 hneg), fun _ => rfl⟩, by dsimp only; omega, by dsimp only; omega, fun e => by dsimp only at e; have := hM.num.gr.blk e; omega, by dsimp only; have := hM.len; omega, hM.old, fun b0 => by
              obtain ⟨σ2, f2, n2, k2, l2⟩ := hfin b0
              exact ⟨σ2, f2, fun _ => ⟨rfl, rfl, n2⟩, k2, l2⟩⟩
          · refine ⟨_, _, c6a, ⟨rfl, Nat.le_of_ble_eq_true rfl, hpon⟩, _, rfl, _, set_same c6a, ?_⟩
            refine ⟨_, load_liv c6a rfl rfl, ?_⟩
            exact endm [] (by dsimp only; omega) ⟨v, _, false, Rs f g n s, Us f g n s, rfl, ⟨(fun h => by cases h), fun h => by have := hcv.2 (hiff.1 h); omega⟩, by dsimp only; omega, by dsimp only; omega, fun e => by dsimp only at e; have := hM.num.gr.blk e; omega, by dsimp only; have := hM.len; omega, hM.old, fun b0 => by
              obtain ⟨σ2, f2, n2, k2, l2⟩ := hfin b0
              exact ⟨σ2, f2, fun h => (by cases h), k2, l2⟩⟩
end Go.PI
/- WHETHER AN ORIGAMI IS CONNECTED, of the program. -/
open Go.Proofs
namespace Go.PI
open IM
set_option maxRecDepth 10000
set_option maxHeartbeats 4000000
variable (S : FuncId → Option (List AV → Heap → Option (AV × Heap)))
theorem fn182 : ctx.fn 182 = some c182 := by kernel_rfl
theorem indexSplit_ct (hS : OldO S) {r u : List Int} {n : Nat} {f f' g g' : Nat → Nat} (ho : IsO r u n f f' g g') :
    Ct (ctx.plus S) 182 [pOs [(r, u)], .fn 188] 3200 fun w => (Conn n f g ∧ w = pn (-1)) ∨ (¬ Conn n f g ∧ w = pn 0) := by
  refine ct_of (hS 182 (by decide)) fn182 ?_
  refine ⟨fun m s => ∃ (i b : Nat) (T : List PV), s = ⟨T, [], b⟩ ∧ Gt T 19 [(0, pOs [(r, u)]), (1, .fn 188), (7, pn 1), (8, pn i)] ∧ m = 1 - i ∧ i ≤ 1 ∧ b ≤ 3100 * i ∧ Hid (0 < i → Conn n f g), ⟨_, ci ⟨0, 0, _, rfl, ⟨rfl, rfl, rfl, rfl, rfl, trivial⟩, rfl, Nat.zero_le _, Nat.le_refl _, ⟨fun h => by omega⟩⟩⟩, ?_⟩
  rintro _ s ⟨i, b, T, rfl, hT, rfl, hi, hb, hh⟩
  obtain ⟨J, rfl⟩ := gt_open hT
  clear hT
  refine ⟨fun hlt => ?_, fun hge => ?_⟩
  · have hi0 : i = 0 := by omega
    subst hi0
    refine ⟨⟨⟨by omega, by omega⟩, by show 0 * 2 ≤ _; omega⟩, ?_⟩
    refine ⟨pO r u, rfl, ?_⟩
    refine callq rfl (isSplit_ct S hS ho) (by omega) ?_
    rintro _ (⟨hc, rfl⟩ | ⟨hc, rfl⟩)
    · refine ⟨⟨by omega, by omega⟩, ?_⟩
      exact ⟨_, by omega, ci ⟨1, _, _, rfl, ⟨rfl, rfl, rfl, rfl, rfl, trivial⟩, rfl, by omega, by omega, ⟨fun _ => hc⟩⟩⟩
    · exact endq rfl (.inr ⟨hc, rfl⟩)
  · exact endq rfl (.inl ⟨hh.h (by omega), rfl⟩)
theorem fn136 : ctx.fn 136 = some c136 := by kernel_rfl
theorem containsSplit_ct (hS : OldO S) {r u : List Int} {n : Nat} {f f' g g' : Nat → Nat} (ho : IsO r u n f f' g g') :
    Ct (ctx.plus S) 136 [pOs [(r, u)], .fn 188] 3200 fun w => (Conn n f g ∧ w = .bool false) ∨ (¬ Conn n f g ∧ w = .bool true) := by
  refine ct_of (hS 136 (by decide)) fn136 ?_
  refine callq rfl (indexSplit_ct S hS ho) (by omega) ?_
  rintro _ (⟨hc, rfl⟩ | ⟨hc, rfl⟩)
  · exact ⟨fun h => by omega, fun _ => endq rfl (.inl ⟨hc, rfl⟩)⟩
  · exact ⟨fun _ => endq rfl (.inr ⟨hc, rfl⟩), fun h => by omega⟩
theorem checkConn_ok (hS : OldO S) {r u : List Int} {n : Nat} {f f' g g' : Nat → Nat} (ho : IsO r u n f f' g g') : Ct (ctx.plus S) 142 [pOs [(r, u)]] 3300 fun v => v = pn (cc n f g) := by
  have hl := ho.l1
  have hn := ho.le
  have h0 := ho.chk
  refine ct_of (hS 142 (by decide)) fn142 ?_
  refine callq rfl (check1_ct S hS (by omega) (by omega)) (by omega) ?_
  rintro _ rfl
  rw [h0]
  refine ⟨fun _ => ?_, fun h => absurd rfl h⟩
  refine callq rfl (containsSplit_ct S hS ho) (by omega) ?_
  rintro _ (⟨hc, rfl⟩ | ⟨hc, rfl⟩)
  · exact endq rfl (by unfold cc; rw [if_pos hc])
  · exact endq rfl (by unfold cc; rw [if_neg hc])
end Go.PI
/- THE LABEL of the program; the law of labels. -/
open Go.Proofs
namespace Go.PI
open IM
set_option maxRecDepth 10000
set_option maxHeartbeats 4000000
variable (S : FuncId → Option (List AV → Heap → Option (AV × Heap)))
def LBst (f g : Nat → Nat) (n i : Nat) (bR bU : List Int) (w3 : PV) : Prop := (i = 0 ∧ bR = [] ∧ bU = [] ∧ w3 = .nils) ∨ (0 < i ∧ bR = Rs f g n (bst f g n i) ∧ bU = Us f g n (bst f g n i) ∧ w3 = pIs (PL n (ei f g n (bst f g n i))))
theorem fn193 : ctx.fn 193 = some c193 := by kernel_rfl
theorem label_ct (hS : OldO S) {r u : List Int} {n : Nat} {f f' g g' : Nat → Nat} (ho : IsO r u n f f' g g') (hc : Conn n f g) :
    Ct (ctx.plus S) 193 [pO r u] 2000000 fun w => w = .tup [pO (Rs f g n (bst f g n n)) (Us f g n (bst f g n n)), pIs (PL n (ei f g n (bst f g n n)))] := by
  have hn := ho.le
  have h0 := ho.pos
  have hrl := ho.l1.1
  refine ct_of (hS 193 (by decide)) fn193 ?_
  refine ⟨by omega, by omega, ?_⟩
  refine ⟨_, rfl, ?_⟩
  refine ⟨fun q st => ∃ (i b : Nat) (bR bU : List Int) (w3 : PV) (σ : List StB) (T : List PV), st = ⟨T, σ, b⟩ ∧ Gt T 33 [(1, .optr 0 0), (2, .optr 1 0), (3, w3), (10, pn r.length), (11, pn i)] ∧ q = n - i ∧ i ≤ n ∧ b ≤ 10 + 30000 * i ∧ Hid (σ[0]? = some (.live 45 [pIs r, pIs u]) ∧ σ[1]? = some (.live 45 [pIs bR, pIs bU]) ∧ LBst f g n i bR bU w3), ⟨_, ci ⟨0, _, [], [], .nils, _, _, rfl, ⟨rfl, rfl, rfl, rfl, rfl, rfl, trivial⟩, rfl, Nat.zero_le _, by omega, ⟨rfl, rfl, .inl ⟨rfl, rfl, rfl, rfl⟩⟩⟩⟩, ?_⟩
  rintro _ st ⟨i, b, bR, bU, w3, σ, T, rfl, hT, rfl, hi, hb, hh⟩
  obtain ⟨J, rfl⟩ := gt_open hT
  clear hT
  obtain ⟨d0, d1, hLB⟩ := hh.h
  clear hh
  have hl1 := (List.getElem?_eq_some_iff.1 d1).1
  refine ⟨fun hlt => ?_, fun hge => ?_⟩
  · have hin : i < n := by omega
    have hbb : (bR = [] ∧ bU = []) ∨ (bR.length = n ∧ bU.length = n) := by
      rcases hLB with ⟨-, h1, h2, -⟩ | ⟨-, h1, h2, -⟩
      · exact .inl ⟨h1, h2⟩
      · exact .inr ⟨by rw [h1, Rs_len], by rw [h2, Us_len]⟩
    refine callm (numberingFrom_cm S hS (x := i)) (by omega) ?_
    rintro _ σ1 ⟨j, m, v0, rfl, a1, a2, a3, a4, a5⟩
    refine ⟨_, load_c (contOf_live (a2 0 _ d0)) rfl rfl, ?_⟩
    refine ⟨_, load_c (contOf_live (a2 1 _ d1)) rfl rfl, ?_⟩
    refine callm (makeLess_cm S hS ho hc hin a1 hbb) (by omega) ?_
    rintro _ σ2 ⟨v', q, bb, R', U', rfl, hiff, x1, x2, x3, x4, x5, hf⟩
    obtain ⟨σ3, f3, g3, k3, l3⟩ := hf (.live 45 [.lst 0 [], .lst 0 []])
    have s1 := (List.getElem?_eq_some_iff.1 (a2 1 _ d1)).1
    have e0 := k3 0 _ (by omega) (by omega) (a5 0 (by omega)) (a2 0 _ d0)
    have e1 := k3 1 _ (by omega) (by omega) (a5 1 (by omega)) (a2 1 _ d1)
    have y0 := x5 0 (by omega) (a5 0 (by omega))
    have y1 := x5 1 (by omega) (a5 1 (by omega))
    have l3l := (List.getElem?_eq_some_iff.1 l3).1
    refine ⟨by omega, ?_⟩
    refine f3 (fun v' σ' => pstoreK (ctx.plus S) σ' 45 (PV.optr σ2.length 0) v' _) ?_
    refine ⟨_, _, l3, ⟨rfl, Nat.le_of_ble_eq_true rfl, rfl⟩, _, rfl, _, rfl, ?_⟩
    cases bb with
    | true =>
      obtain ⟨rfl, rfl, hnum⟩ := g3 rfl
      have hnum4 := hnum.set (L := σ2.length) (b := .live 45 [pIs (Rs f g n i), pIs (Us f g n i)]) x1 x2 x3
      have hbest : bst f g n (i + 1) = i := by
        rcases hLB with ⟨h1, -⟩ | ⟨h1, h2, h3, -⟩
        · subst h1; exact bst_one
        · refine bst_yes ?_
          rcases hiff.1 rfl with h | h
          · rw [h2] at h; exact absurd h (Rs_ne h0)
          · rw [h2, h3] at h; exact h
      obtain ⟨jv, ty, hcv, hv⟩ := hnum4.gr.shape hnum4.ne
      obtain ⟨σ5, f5, c5, len5, k5⟩ := hnum4.gr.cn.fz
      rw [pIs_NL, bfs_PL ho.pr ho.pu h0 hin hc] at f5
      have hliv := hnum4.liv
      have e15 := k5 1 _ y1 (by rw [List.getElem?_set_ne (by omega)]; exact e1)
      have e05 := k5 0 _ y0 (by rw [List.getElem?_set_ne (by omega)]; exact e0)
      rcases hv with hv | hv
      all_goals
        rw [hv] at hliv f5
        refine ⟨by kernel_rfl, ?_⟩
        refine ⟨_, load_c (contOf_live (List.getElem?_set_self l3l)) rfl rfl, rfl, ?_⟩
        refine ⟨_, load_liv hliv rfl rfl, rfl, ?_⟩
        refine cal1 f5 (inverse_ct S hS (es_perm ho.pr ho.pu h0 hin hc) (by omega)) (by omega) ?_
        rintro _ rfl
        refine ⟨_, _, e15, ⟨rfl, Nat.le_of_ble_eq_true rfl, rfl⟩, _, rfl, _, rfl, ?_⟩
        refine ⟨⟨by omega, by omega⟩, ?_⟩
        exact ⟨_, by omega, ci ⟨i + 1, _, Rs f g n i, Us f g n i, pIs (PL n (ei f g n i)), _, _, rfl, ⟨rfl, rfl, rfl, rfl, rfl, rfl, trivial⟩, rfl, by omega, by omega, ⟨by rw [List.getElem?_set_ne (by omega)]; exact e05, List.getElem?_set_self (List.getElem?_eq_some_iff.1 e15).1, .inr ⟨by omega, by rw [hbest], by rw [hbest], by rw [hbest]⟩⟩⟩⟩
    | false =>
      have hbest : 0 < i ∧ bst f g n (i + 1) = bst f g n i := by
        rcases hLB with ⟨h1, h2, -⟩ | ⟨h1, h2, h3, -⟩
        · exact absurd (hiff.2 (.inl h2)) (by decide)
        · refine ⟨h1, bst_no fun hc => ?_⟩
          have := hiff.2 (.inr (by rw [h2, h3]; exact hc))
          cases this
      refine ⟨⟨by omega, by omega⟩, ?_⟩
      exact ⟨_, by omega, ci ⟨i + 1, _, _, _, _, _, _, rfl, ⟨rfl, rfl, rfl, rfl, rfl, rfl, trivial⟩, rfl, by omega, by omega, ⟨by rw [List.getElem?_set_ne (by omega)]; exact e0, by rw [List.getElem?_set_ne (by omega)]; exact e1, by
        rcases hLB with ⟨h1, -⟩ | ⟨h1, h2, h3, h4⟩
        · omega
        · exact .inr ⟨by omega, by rw [hbest.2]; exact h2, by rw [hbest.2]; exact h3, by rw [hbest.2]; exact h4⟩⟩⟩⟩
  · have hin : i = n := by omega
    subst hin
    rcases hLB with ⟨h1, -⟩ | ⟨h1, h2, h3, h4⟩
    · omega
    · subst h2; subst h3; subst h4
      refine ⟨_, load_c (contOf_live d1) rfl rfl, ?_⟩
      refine ⟨_, _, d1, ⟨rfl, Nat.le_of_ble_eq_true rfl, rfl⟩, _, rfl, _, rfl, ?_⟩
      refine ⟨_, load_c (contOf_live (List.getElem?_set_self hl1)) rfl rfl, ?_⟩
      exact endsq rfl rfl
theorem fn148 : ctx.fn 148 = some c148 := by kernel_rfl
theorem labelAll_ok (hS : OldO S) {r u : List Int} {n : Nat} {f f' g g' : Nat → Nat} (ho : IsO r u n f f' g g') :
    Ct (ctx.plus S) 148 [pO r u] 2010000 fun v => (¬ Conn n f g ∧ v = .tup [pO [] [], .lst 0 [], pn 16]) ∨ (Conn n f g ∧ v = .tup [pO (Rs f g n (bst f g n n)) (Us f g n (bst f g n n)), pIs (PL n (ei f g n (bst f g n n))), pn 0]) := by
  refine ct_of (hS 148 (by decide)) fn148 ?_
  refine ⟨by omega, by omega, ?_⟩
  refine ⟨_, rfl, ?_⟩
  refine ⟨by omega, partc rfl ⟨_, rfl, ?_⟩⟩
  refine cal1 (fz_own (ty := 45) rfl (Nat.le_refl 2) (Nat.le_refl _) rfl) (checkConn_ok S hS ho) (by omega) ?_
  rintro _ rfl
  by_cases hc : Conn n f g
  · have e : cc n f g = 0 := by unfold cc; rw [if_pos hc]
    rw [e]
    refine ⟨fun h => absurd rfl h, fun _ => ?_⟩
    refine ⟨_, rfl, ?_⟩
    refine callq rfl (label_ct S hS ho hc) (by omega) ?_
    rintro _ rfl
    refine ⟨by omega, ?_⟩
    refine ⟨_, _, rfl, ⟨rfl, Nat.le_of_ble_eq_true rfl, rfl⟩, _, rfl, _, rfl, ?_⟩
    refine ⟨_, rfl, ?_⟩
    refine ⟨_, _, rfl, ⟨rfl, Nat.le_of_ble_eq_true rfl, rfl⟩, _, rfl, _, rfl, ?_⟩
    refine ⟨_, rfl, ?_⟩
    exact endsq rfl (.inr ⟨hc, rfl⟩)
  · have e : cc n f g = 16 := by unfold cc; rw [if_neg hc]
    rw [e]
    refine ⟨fun _ => ?_, fun h => absurd h (by decide)⟩
    refine ⟨_, rfl, ?_⟩
    refine ⟨_, _, rfl, ⟨rfl, Nat.le_of_ble_eq_true rfl, rfl⟩, _, rfl, _, rfl, ?_⟩
    refine ⟨_, rfl, ?_⟩
    exact ⟨⟨[], .inl ⟨hc, rfl⟩⟩⟩
end Go.PI
/- WHICH OF TWO ORIGAMIS COMES FIRST, of the program. -/
open Go.Proofs
namespace Go.PI
open IM
set_option maxRecDepth 10000
set_option maxHeartbeats 4000000
variable (S : FuncId → Option (List AV → Heap → Option (AV × Heap)))
theorem compareQ_ct (hS : OldO S) {xs ys : List Int} (hl : xs.length = ys.length) (hx : xs.length ≤ 1000000) : Ct (ctx.plus S) 195 [pIs xs, pIs ys] 0 fun w => ∃ c : Int, w = pn c ∧ (c < 0 ↔ Lt xs ys) ∧ (c = 0 ↔ xs = ys) := by
  refine ct_of (hS 195 (by decide)) fn195 ?_
  refine ⟨fun m s => ∃ (i : Nat) (T : List PV), s = ⟨T, [], 0⟩ ∧ Gt T 36 [(0, pIs xs), (1, pIs ys), (9, pIs xs), (10, pn xs.length), (11, pn i)] ∧ m = xs.length - i ∧ i ≤ xs.length ∧ Hid (Eqs xs ys i), ⟨_, ci ⟨0, _, rfl, ⟨rfl, rfl, rfl, rfl, rfl, rfl, trivial⟩, rfl, Nat.zero_le _, ⟨rfl⟩⟩⟩, ?_⟩
  rintro _ s ⟨i, T, rfl, hT, rfl, hi, hn⟩
  obtain ⟨J, rfl⟩ := gt_open hT
  clear hT
  refine ⟨fun hlt => ?_, fun hge => ?_⟩
  · obtain ⟨a, ha⟩ := xs_get (xs := xs) (i := i) (by omega)
    obtain ⟨b, hb⟩ := xs_get (xs := ys) (i := i) (by omega)
    have hne : a ≠ b → xs ≠ ys := fun h he => by
      rw [he, hb] at ha
      exact h (Option.some.inj ha).symm
    have Hne : Hid (a ≠ b → xs ≠ ys) := ⟨hne⟩
    clear hne
    refine ⟨⟨⟨by omega, by omega⟩, len_map_le (by omega)⟩, ?_⟩
    refine ⟨_, ld (at_map ha) (by show _ * 1 = i; omega), ?_⟩
    refine ⟨fun h => absurd h (by omega), fun _ => ?_⟩
    refine ⟨⟨⟨by omega, by omega⟩, len_map_le (by omega)⟩, ?_⟩
    refine ⟨_, ld (at_map hb) (by show _ * 1 = i; omega), ?_⟩
    refine callq rfl (compare_ct S hS) (by omega) ?_
    rintro _ (⟨h, rfl⟩ | ⟨h, rfl⟩ | ⟨h, rfl⟩)
    · refine ⟨fun _ => ?_, fun h => absurd h (by decide)⟩
      exact endq rfl ⟨-1, rfl, ⟨fun _ => (lt_at hn.h ha hb (by omega)).2 h, fun _ => by omega⟩, fun h => absurd h (by decide), fun he => absurd he (Hne.h (by omega))⟩
    · refine ⟨fun h => absurd rfl h, fun _ => ?_⟩
      refine ⟨⟨by omega, by omega⟩, ?_⟩
      exact ⟨_, by omega, ci ⟨i + 1, _, rfl, ⟨rfl, rfl, rfl, rfl, rfl, rfl, trivial⟩, rfl, by omega, ⟨eqs_next hn.h ha hb h⟩⟩⟩
    · refine ⟨fun _ => ?_, fun h => absurd h (by decide)⟩
      exact endq rfl ⟨1, rfl, ⟨fun h => by omega, fun hc => by have := (lt_at hn.h ha hb (by omega)).1 hc; omega⟩, fun h => absurd h (by decide), fun he => absurd he (Hne.h (by omega))⟩
  · have he : xs = ys := by
      have := hn.h; unfold Eqs at this
      rwa [List.take_of_length_le (by omega), List.take_of_length_le (by omega)] at this
    refine ⟨fun h => absurd h (by omega), fun _ => ?_⟩
    exact endq rfl ⟨0, rfl, ⟨fun h => by omega, fun hc => by rw [he] at hc; exact absurd hc lt_irr⟩, fun _ => he, fun _ => rfl⟩
theorem fn194 : ctx.fn 194 = some c194 := by kernel_rfl
theorem or_ct (hS : OldO S) {a b : Int} : Ct (ctx.plus S) 194 [pIs [a, b]] 0 fun w => w = pn (if a ≠ 0 then a else b) := by
  obtain ⟨xs, hxs⟩ : ∃ xs, xs = [a, b] := ⟨_, rfl⟩
  have hlen : xs.length = 2 := by rw [hxs]; rfl
  have hgx : ∀ (i : Nat) (x : Int), xs[i]? = some x → (i = 0 ∧ x = a) ∨ (i = 1 ∧ x = b) := fun i x h => by
    rw [hxs] at h
    match i, h with
    | 0, h => exact .inl ⟨rfl, (Option.some.inj h).symm⟩
    | 1, h => exact .inr ⟨rfl, (Option.some.inj h).symm⟩
    | n + 2, h => simp at h
  rw [← hxs]
  clear hxs
  refine ct_of (hS 194 (by decide)) fn194 ?_
  refine ⟨fun m s => ∃ (i : Nat) (T : List PV), s = ⟨T, [], 0⟩ ∧ Gt T 18 [(0, pIs xs), (3, pn 0), (6, pIs xs), (7, pn xs.length), (8, pn i)] ∧ m = xs.length - i ∧ i ≤ xs.length ∧ Hid ((0 < i → a = 0) ∧ (1 < i → b = 0)), ⟨_, ci ⟨0, _, rfl, ⟨rfl, rfl, rfl, rfl, rfl, rfl, trivial⟩, rfl, Nat.zero_le _, ⟨fun h => absurd h (by decide), fun h => absurd h (by decide)⟩⟩⟩, ?_⟩
  rintro _ s ⟨i, T, rfl, hT, rfl, hi, hn⟩
  obtain ⟨J, rfl⟩ := gt_open hT
  clear hT
  refine ⟨fun hlt => ?_, fun hge => ?_⟩
  · obtain ⟨x, hx⟩ := xs_get (xs := xs) (i := i) (by omega)
    have hcase := hgx i x hx
    refine ⟨⟨⟨by omega, by omega⟩, len_map_le (by omega)⟩, ?_⟩
    refine ⟨_, ld (at_map hx) (by show _ * 1 = i; omega), ?_⟩
    refine ⟨fun h => ?_, fun h => ?_⟩
    · refine endq rfl ?_
      rcases hcase with ⟨-, rfl⟩ | ⟨rfl, rfl⟩
      · rw [if_pos h]
      · rw [if_neg (fun hc => hc (hn.h.1 (by omega)))]
    · refine ⟨⟨by omega, by omega⟩, ?_⟩
      have h : x = 0 := h
      refine ⟨_, by omega, ci ⟨i + 1, _, rfl, ⟨rfl, rfl, rfl, rfl, rfl, rfl, trivial⟩, rfl, by omega, ⟨?_⟩⟩⟩
      rcases hcase with ⟨rfl, rfl⟩ | ⟨rfl, rfl⟩
      · exact ⟨fun _ => h, fun h => absurd h (by decide)⟩
      · exact ⟨fun _ => hn.h.1 (by decide), fun _ => h⟩
  · have h2 : i = 2 := by omega
    have e : (if a ≠ 0 then a else b) = 0 := by rw [if_neg (fun hc => hc (hn.h.1 (by omega))), hn.h.2 (by omega)]
    rw [e]
    exact endq rfl rfl
theorem fn149 : ctx.fn 149 = some c149 := by kernel_rfl
theorem cmpO_ct (hS : OldO S) {R U R' U' : List Int} (h1 : R.length = R'.length) (h2 : U.length = U'.length) (hl : R.length ≤ 1000) (hl2 : U.length ≤ 1000) :
    Ct (ctx.plus S) 149 [pO R U, pO R' U'] 10 fun w => ∃ c : Int, w = pn c ∧ (c < 0 ↔ Lt (R ++ U) (R' ++ U')) ∧ (c = 0 ↔ R = R' ∧ U = U') := by
  refine ct_of (hS 149 (by decide)) fn149 ?_
  refine ⟨by omega, by omega, ?_⟩
  refine ⟨by kernel_rfl, ?_⟩
  refine ⟨_, rfl, rfl, ?_⟩
  refine ⟨_, rfl, rfl, ?_⟩
  refine callq rfl (compareQ_ct S hS h1 (by omega)) (by omega) ?_
  rintro _ ⟨c, rfl, c1, c2⟩
  refine ⟨_, rfl, rfl, ?_⟩
  refine ⟨_, rfl, rfl, ?_⟩
  refine callq rfl (compareQ_ct S hS h2 (by omega)) (by omega) ?_
  rintro _ ⟨d, rfl, d1, d2⟩
  refine ⟨by omega, partc rfl ⟨_, rfl, ?_⟩⟩
  refine cal1 (fz_own (ty := 3) rfl (Nat.le_refl 2) (Nat.le_refl _) rfl) (or_ct S hS (a := c) (b := d)) (by omega) ?_
  rintro _ rfl
  refine endq rfl ⟨_, rfl, ?_, ?_⟩
  · rw [lt_app h1 h2]
    by_cases hc : c = 0
    · rw [if_neg (fun h => h hc), d1]
      have hR := c2.1 hc
      exact ⟨fun h => .inr ⟨hR, h⟩, fun h => h.elim (fun h => by rw [hR] at h; exact absurd h lt_irr) fun h => h.2⟩
    · rw [if_pos hc, c1]
      exact ⟨fun h => .inl h, fun h => h.elim id fun h => absurd (c2.2 h.1) hc⟩
  · by_cases hc : c = 0
    · rw [if_neg (fun h => h hc), d2]
      exact ⟨fun h => ⟨c2.1 hc, h⟩, fun h => h.2⟩
    · rw [if_pos hc]
      exact ⟨fun h => absurd h hc, fun h => c2.2 h.1⟩
end Go.PI
/- ONE STEP ALONG A CYCLE, forth or back. -/
namespace Go.PI
set_option maxRecDepth 10000
set_option maxHeartbeats 4000000
def stp (f f' : Nat → Nat) (k : Int) : Nat → Nat := if k = 1 then f else f'
theorem stp_perm {n : Nat} {f f' : Nat → Nat} (h : IsP n f f') {k : Int} : IsP n (stp f f' k) (stp f' f k) := by
  unfold stp
  split
  · exact h
  · exact h.inv
def plc (i k m : Int) : Int := ((i + k).tmod m + m).tmod m
theorem tm_lt {a m : Int} (h0 : 0 ≤ a) (h1 : a < m) : a.tmod m = a := by rw [Int.tmod_eq_emod_of_nonneg h0, Int.emod_eq_of_lt h0 h1]
theorem tm_add {a m : Int} (h0 : 0 ≤ a) (h1 : a < m) : (a + m).tmod m = a := by rw [Int.tmod_eq_emod_of_nonneg (by omega), Int.add_emod_right, Int.emod_eq_of_lt h0 h1]
theorem tm_self {m : Int} (h : 0 < m) : m.tmod m = 0 := by rw [Int.tmod_eq_emod_of_nonneg (by omega), Int.emod_self]
theorem plc_is {i m : Nat} {k : Int} (hi : i < m) (hk : k = 1 ∨ k = -1) : plc i k m = (if k = 1 then (if i + 1 = m then 0 else (i + 1 : Nat)) else if i = 0 then (m - 1 : Nat) else (i - 1 : Nat) : Int) := by
  unfold plc
  rcases hk with rfl | rfl
  · rw [if_pos rfl]
    by_cases e : i + 1 = m
    · have e2 : (i : Int) + 1 = m := by omega
      rw [if_pos e, e2, tm_self (by omega), Int.zero_add, tm_self (by omega)]
    · rw [if_neg e, tm_lt (a := (i : Int) + 1) (by omega) (by omega), tm_add (by omega) (by omega)]
      omega
  · rw [if_neg (by decide)]
    by_cases e : i = 0
    · subst e
      rw [if_pos rfl]
      by_cases e1 : m = 1
      · subst e1; decide
      · have h0 : ((0 : Nat) : Int) + -1 = -1 := by omega
        have h1 : (-1 : Int).tmod m = -1 := by rw [Int.neg_tmod, tm_lt (by omega) (by omega)]
        rw [h0, h1, tm_lt (by omega) (by omega)]
        omega
    · rw [if_neg e, tm_lt (a := (i : Int) + -1) (by omega) (by omega), tm_add (by omega) (by omega)]
      omega
theorem plc_at {n x i : Nat} {f f' : Nat → Nat} {k : Int} (h : IsP n f f') (hx : x < n) (hi : i < ordr f x) (hk : k = 1 ∨ k = -1) :
    0 ≤ plc i k (ordr f x) ∧ plc i k (ordr f x) < ordr f x ∧ (cyc f x)[(plc i k (ordr f x)).toNat]? = some ((stp f f' k (it f i x) : Nat) : Int) := by
  obtain ⟨o1, o2, o3, o4⟩ := ordr_spec h hx
  have hp := plc_is hi hk
  have hat : ∀ j, j < ordr f x → (cyc f x)[j]? = some ((it f j x : Nat) : Int) := fun j hj => by simp [cyc, hj]
  unfold stp
  rcases hk with rfl | rfl
  · rw [if_pos rfl] at hp ⊢
    by_cases e : i + 1 = ordr f x
    · rw [if_pos e] at hp
      rw [hp]
      refine ⟨by omega, by omega, ?_⟩
      have : it f (i + 1) x = x := by rw [e]; exact o2
      rw [show (0 : Int).toNat = 0 from rfl, hat 0 o1]
      show some ((x : Nat) : Int) = some ((it f (i + 1) x : Nat) : Int)
      rw [this]
    · rw [if_neg e] at hp
      rw [hp]
      refine ⟨by omega, by omega, ?_⟩
      rw [show (((i + 1 : Nat) : Int)).toNat = i + 1 from by omega, hat (i + 1) (by omega)]
      rfl
  · rw [if_neg (by decide)] at hp ⊢
    by_cases e : i = 0
    · rw [if_pos e] at hp
      rw [hp]
      refine ⟨by omega, by omega, ?_⟩
      subst e
      rw [show (((ordr f x - 1 : Nat) : Int)).toNat = ordr f x - 1 from by omega, hat _ (by omega)]
      have h1 : f (it f (ordr f x - 1) x) = x := by
        have : it f (ordr f x - 1 + 1) x = x := by rw [show ordr f x - 1 + 1 = ordr f x by omega]; exact o2
        exact this
      have h2 := h.gf _ (it_lt h hx (ordr f x - 1))
      rw [h1] at h2
      show _ = some ((f' x : Nat) : Int)
      rw [h2]
    · rw [if_neg e] at hp
      rw [hp]
      refine ⟨by omega, by omega, ?_⟩
      rw [show (((i - 1 : Nat) : Int)).toNat = i - 1 from by omega, hat _ (by omega)]
      obtain ⟨j, rfl⟩ : ∃ j, i = j + 1 := ⟨i - 1, by omega⟩
      show _ = some ((f' (f (it f j x)) : Nat) : Int)
      rw [h.gf _ (it_lt h hx j)]
      rfl
def PT (n : Nat) (h : Nat → Nat) (P : Nat → Prop) (ys : List Int) : Prop := ys.length = n ∧ ∀ y, y < n → P y → ys[y]? = some ((h y : Nat) : Int)
theorem pt_set {n y : Nat} {h : Nat → Nat} {P Q : Nat → Prop} {ys : List Int} (a : PT n h P ys) (hy : y < n) (hQ : ∀ z, Q z → P z ∨ z = y) : PT n h Q (ys.set y ((h y : Nat) : Int)) := by
  refine ⟨by rw [List.length_set]; exact a.1, fun z hz hq => ?_⟩
  by_cases e : z = y
  · subst e; rw [List.getElem?_set_self (by rw [a.1]; exact hz)]
  · rw [List.getElem?_set_ne (Ne.symm e)]
    rcases hQ z hq with h1 | h1
    · exact a.2 z hz h1
    · exact absurd h1 e
theorem pt_mono {n : Nat} {h : Nat → Nat} {P Q : Nat → Prop} {ys : List Int} (a : PT n h P ys) (hQ : ∀ z, z < n → Q z → P z) : PT n h Q ys := ⟨a.1, fun z hz hq => a.2 z hz (hQ z hz hq)⟩
theorem pt_done {n : Nat} {h : Nat → Nat} {P : Nat → Prop} {ys : List Int} (a : PT n h P ys) (hP : ∀ z, z < n → P z) : ys = PL n h := PL_ext a.1 fun i hi => a.2 i hi (hP i hi)
def InCy (n : Nat) (f : Nat → Nat) (j y : Nat) : Prop := ∃ c ∈ (cycs n f).take j, (y : Int) ∈ c
open Classical in
theorem cycs_memP {n : Nat} {f : Nat → Nat} {c : List Int} : c ∈ cycs n f ↔ ∃ x, x < n ∧ lead f x ∧ c = cyc f x := by
  unfold cycs
  rw [List.mem_map]
  constructor
  · rintro ⟨x, hx, rfl⟩
    have := List.mem_filter.1 hx
    exact ⟨x, List.mem_range.1 this.1, by simpa using this.2, rfl⟩
  · rintro ⟨x, hx, hl, rfl⟩
    exact ⟨x, List.mem_filter.2 ⟨List.mem_range.2 hx, by simpa using hl⟩, rfl⟩
theorem cycs_all {n : Nat} {f f' : Nat → Nat} (h : IsP n f f') {y : Nat} (hy : y < n) : ∃ c ∈ cycs n f, (y : Int) ∈ c := by
  obtain ⟨x, hx, hmin⟩ := ex_least (P := fun x => InC f y x) ⟨y, InC.refl f y⟩
  have hxn : x < n := by
    obtain ⟨k, rfl⟩ := hx
    exact it_lt h hy k
  have hxy : InC f x y := hx.symm h hy
  refine ⟨cyc f x, cycs_memP.2 ⟨x, hxn, fun z hz => ?_, rfl⟩, (mem_cyc h hxn).2 ⟨y, rfl, hxy⟩⟩
  exact Nat.le_of_not_lt fun hlt => hmin z hlt (hx.trans hz)
end Go.PI
/- ISOMORPHIC ORIGAMIS have the same label. -/
namespace Go.PI
set_option maxRecDepth 10000
set_option maxHeartbeats 4000000
structure Isom (n : Nat) (f g F G e : Nat → Nat) : Prop where
  lt : ∀ x, x < n → e x < n
  inj : ∀ x y, x < n → y < n → e x = e y → x = y
  f : ∀ x, x < n → F (e x) = e (f x)
  g : ∀ x, x < n → G (e x) = e (g x)
section
variable {n : Nat} {f f' g g' F F' G G' e : Nat → Nat}
theorem addL_map (hi : ∀ x y, x < n → y < n → e x = e y → x = y) {xs : List Nat} {x : Nat} (hx : x < n) (hxs : ∀ y ∈ xs, y < n) : addL (xs.map e) (e x) = (addL xs x).map e := by
  unfold addL
  by_cases h : x ∈ xs
  · rw [if_pos h, if_pos (List.mem_map.2 ⟨x, h, rfl⟩)]
  · rw [if_neg h, if_neg fun hm => ?_]
    · simp
    · obtain ⟨y, hy, e2⟩ := List.mem_map.1 hm
      exact h (hi _ _ (hxs y hy) hx e2 ▸ hy)
theorem Isom.bfs (h : Isom n f g F G e) (pf : IsP n f f') (pg : IsP n g g') {s : Nat} (hs : s < n) : ∀ k, PI.bfs F G (e s) k = (PI.bfs f g s k).map e
  | 0 => rfl
  | k + 1 => by
    show nxt F G (PI.bfs F G (e s) k) k = (nxt f g (PI.bfs f g s k) k).map e
    rw [h.bfs pf pg hs k]
    unfold nxt
    rw [List.getElem?_map]
    cases hx : (PI.bfs f g s k)[k]? with
    | none => rfl
    | some x =>
      have hlt := bfs_lt pf pg hs k
      have hxn := hlt x (List.mem_of_getElem? hx)
      simp only [Option.map_some]
      rw [h.f x hxn, h.g x hxn, addL_map h.inj (pf.lt x hxn) hlt, addL_map h.inj (pg.lt x hxn) fun y hy => ?_]
      rcases addL_mem.1 hy with hy | rfl
      · exact hlt y hy
      · exact pf.lt x hxn
theorem idxOf_map (hi : ∀ x y, x < n → y < n → e x = e y → x = y) {x : Nat} (hx : x < n) : ∀ {xs : List Nat}, (∀ y ∈ xs, y < n) → (xs.map e).idxOf (e x) = xs.idxOf x
  | [], _ => rfl
  | y :: xs, h => by
    have hy := h y (by simp)
    have ih := idxOf_map hi hx (xs := xs) fun z hz => h z (by simp [hz])
    rw [List.map_cons, List.idxOf_cons, List.idxOf_cons, ih]
    by_cases e2 : y = x
    · subst e2; simp
    · have h3 : e y ≠ e x := fun e3 => e2 (hi _ _ hy hx e3)
      rw [beq_false_of_ne h3, beq_false_of_ne e2]
theorem Isom.onto (h : Isom n f g F G e) {y : Nat} (hy : y < n) : ∃ x, x < n ∧ e x = y := by
  refine Classical.byContradiction fun hc => ?_
  have := len_le_of (l := y :: (List.range n).map e) (m := List.range n) (List.nodup_cons.2 ⟨fun hm => ?_, ?_⟩) fun z hz => ?_
  · simp at this
    omega
  · obtain ⟨x, hx, e2⟩ := List.mem_map.1 hm
    exact hc ⟨x, List.mem_range.1 hx, e2⟩
  · unfold List.Nodup
    rw [List.pairwise_map]
    refine List.Pairwise.imp_of_mem (R := fun a b => a < b) (fun {a b} ha hb hlt e2 => ?_) List.pairwise_lt_range
    have := h.inj a b (List.mem_range.1 ha) (List.mem_range.1 hb) e2
    omega
  · rcases List.mem_cons.1 hz with rfl | hz
    · exact List.mem_range.2 hy
    · obtain ⟨x, hx, rfl⟩ := List.mem_map.1 hz
      exact List.mem_range.2 (h.lt x (List.mem_range.1 hx))
theorem Isom.rows (h : Isom n f g F G e) (pf : IsP n f f') (pg : IsP n g g') (h0 : 0 < n) (hc : Conn n f g) {s : Nat} (hs : s < n) : Rs F G n (e s) = Rs f g n s ∧ Us F G n (e s) = Us f g n s := by
  have hb := h.bfs pf pg hs n
  have hlt := bfs_lt pf pg hs n
  have he : ∀ k, k < n → es F G n (e s) k = e (es f g n s k) := fun k hk => by
    unfold es
    rw [hb, List.getD_eq_getElem?_getD, List.getD_eq_getElem?_getD, List.getElem?_map, es_get pf pg h0 hs hc hk]
    rfl
  have hi : ∀ x, x < n → ei F G n (e s) (e x) = ei f g n s x := fun x hx => by
    unfold ei
    rw [hb]
    exact idxOf_map h.inj hx hlt
  have hp := es_perm pf pg h0 hs hc
  constructor
  · refine PL_eq fun k hk => ?_
    unfold rn
    have hk2 := hp.lt k hk
    rw [he k hk, h.f _ hk2, hi _ (pf.lt _ hk2)]
  · refine PL_eq fun k hk => ?_
    unfold rn
    have hk2 := hp.lt k hk
    rw [he k hk, h.g _ hk2, hi _ (pg.lt _ hk2)]
theorem lt_trans {xs ys zs : List Int} (h : Lt xs ys) (k : Lt ys zs) : Lt xs zs := by
  obtain ⟨i, a, b, h1, h2, h3, h4⟩ := h
  obtain ⟨j, c, d, k1, k2, k3, k4⟩ := k
  rcases Nat.lt_trichotomy i j with e | e | e
  · refine ⟨i, a, b, ?_, h2, ?_, h4⟩
    · rw [h1]
      have := congrArg (List.take i) k1
      rwa [List.take_take, List.take_take, Nat.min_eq_left (by omega)] at this
    · rw [← take_get k1 e]; exact h3
  · subst e
    rw [h3] at k2
    have := Option.some.inj k2
    exact ⟨i, a, d, h1.trans k1, h2, k3, by omega⟩
  · refine ⟨j, c, d, ?_, ?_, k3, k4⟩
    · rw [← k1]
      have := congrArg (List.take j) h1
      rwa [List.take_take, List.take_take, Nat.min_eq_left (by omega)] at this
    · rw [take_get h1 e]; exact k2
theorem lt_tri {xs ys : List Int} (hl : xs.length = ys.length) (h1 : ¬ Lt xs ys) (h2 : ¬ Lt ys xs) : xs = ys := by
  refine Classical.byContradiction fun hne => ?_
  obtain ⟨k, a, b, q1, q2, q3, q4⟩ := first_diff hl hne
  rcases Int.lt_trichotomy a b with e | e | e
  · exact h1 ⟨k, a, b, q1, q2, q3, e⟩
  · exact q4 e
  · exact h2 ⟨k, b, a, q1.symm, q3, q2, e⟩
theorem bst_min : ∀ (i : Nat), ∀ s, s < i → ¬ Bf f g n s (bst f g n i)
  | 0, s, hs => by omega
  | i + 1, s, hs => by
    by_cases h : Bf f g n i (bst f g n i)
    · rw [bst_yes h]
      by_cases e : s = i
      · subst e; exact lt_irr
      · intro hb
        exact bst_min i s (by omega) (lt_trans hb h)
    · rw [bst_no h]
      by_cases e : s = i
      · subst e; exact h
      · exact bst_min i s (by omega)
theorem Isom.label (h : Isom n f g F G e) (pf : IsP n f f') (pg : IsP n g g') (h0 : 0 < n) (hc : Conn n f g) :
    Rs F G n (bst F G n n) = Rs f g n (bst f g n n) ∧ Us F G n (bst F G n n) = Us f g n (bst f g n n) := by
  have b1 := bst_lt (f := f) (g := g) h0 n (Nat.le_refl _)
  have b2 := bst_lt (f := F) (g := G) h0 n (Nat.le_refl _)
  obtain ⟨x, hx, ex⟩ := h.onto b2
  have r1 := h.rows pf pg h0 hc hx
  have r2 := h.rows pf pg h0 hc b1
  have m1 := bst_min (f := f) (g := g) (n := n) n x hx
  have m2 := bst_min (f := F) (g := G) (n := n) n (e (bst f g n n)) (h.lt _ b1)
  unfold Bf at m1 m2
  rw [r2.1, r2.2] at m2
  rw [ex] at r1
  rw [r1.1, r1.2] at m2 ⊢
  have := lt_tri (xs := Rs f g n x ++ Us f g n x) (ys := Rs f g n (bst f g n n) ++ Us f g n (bst f g n n)) (by simp [Rs_len, Us_len]) m1 m2
  exact List.append_inj this (by simp [Rs_len])
end
end Go.PI
