/- Own work of the verifier: OgS OgT OgU OgW OgX OgY OgZ OgAa OgAb OgAc. -/
import Derived.Test.YtefajaiioljjoaaOwBB
import Derived.Test.YtefajaiioljjoaaOwAU
set_option linter.all false
set_option exponentiation.threshold 3000
set_option linter.deprecated false
/- NUMBERINGS: the squares around one. -/
open Go.Proofs
namespace Go.PI
open IM
set_option maxRecDepth 10000
set_option maxHeartbeats 4000000
variable (S : FuncId → Option (List AV → Heap → Option (AV × Heap)))
theorem Num.push {σ : List StB} {j m : Nat} {v : PV} {xs : List Nat} {b : StB} (h : Num σ j m v xs) : Num (σ ++ [b]) j m v xs := by
  obtain ⟨es, hes, hg⟩ := h.mp
  obtain ⟨jv, hj, hl⟩ := h.lv
  exact ⟨push_old h.liv, h.gr.push, ⟨es, push_old hes, hg⟩, h.ne, h.jv, h.mv, h.jm, ⟨jv, hj, push_old hl⟩⟩
theorem Num.keep {σ σ' : List StB} {j m : Nat} {v : PV} {xs : List Nat} (h : Num σ j m v xs) (k : ∀ i b, (i = j ∨ i = m ∨ blkOf v = some i) → σ[i]? = some b → σ'[i]? = some b) : Num σ' j m v xs := by
  obtain ⟨es, hes, hg⟩ := h.mp
  exact ⟨k j _ (.inl rfl) h.liv, h.gr.keep fun i b hi hb => k i b (.inr (.inr hi)) hb, ⟨es, k m _ (.inr (.inl rfl)) hes, hg⟩, h.ne, h.jv, h.mv, h.jm, h.lv.imp fun jv hj => ⟨hj.1, k jv _ (.inr (.inr hj.1)) hj.2⟩⟩
theorem Num.jl {σ : List StB} {j m : Nat} {v : PV} {xs : List Nat} (h : Num σ j m v xs) : j < σ.length := (List.getElem?_eq_some_iff.1 h.liv).1
theorem Num.ml {σ : List StB} {j m : Nat} {v : PV} {xs : List Nat} (h : Num σ j m v xs) : m < σ.length := by
  obtain ⟨es, hes, hg⟩ := h.mp
  exact (List.getElem?_eq_some_iff.1 hes).1
theorem NF.push {σ : List StB} {j m : Nat} {v : PV} {b : StB} : NF σ (σ ++ [b]) j m v v := ⟨by simp, fun i b _ _ _ h => push_old h, fun _ _ h => h⟩
theorem addL_idx {xs : List Nat} {x y : Nat} (h : y ∈ xs) : (addL xs x).idxOf y = xs.idxOf y := by
  unfold addL
  by_cases hx : x ∈ xs
  · rw [if_pos hx]
  · rw [if_neg hx, idx_old h]
theorem addL_self {xs : List Nat} {x : Nat} : x ∈ addL xs x := addL_mem.2 (.inr rfl)
theorem addL_len {xs : List Nat} {x : Nat} : (addL xs x).length ≤ xs.length + 1 := by
  unfold addL
  by_cases hx : x ∈ xs
  · rw [if_pos hx]; omega
  · rw [if_neg hx]; simp
theorem load_c {C : Ctx} {σ : List StB} {j o : Nat} {t t' : TypeId} {i : TI} {cs : List PV} {v : PV} (hc : contOf σ j = some (t', cs)) (hi : C.ty t = some i) (hv : partP i cs o = some v) : ploadE C σ t (.optr j o) = some v := by
  unfold ploadE
  rw [hi]
  simp only [hc]
  exact hv
theorem NF.set {σ σ' : List StB} {j m L : Nat} {v v' : PV} {b : StB} (h : NF σ σ' j m v v') (hL : σ.length ≤ L) : NF σ (σ'.set L b) j m v v' :=
  ⟨by rw [List.length_set]; exact h.len, fun i b h1 h2 h3 h4 => by
    have := (List.getElem?_eq_some_iff.1 h4).1
    rw [List.getElem?_set_ne (by omega)]; exact h.keep i b h1 h2 h3 h4, h.blk⟩
theorem Num.set {σ : List StB} {j m L : Nat} {v : PV} {xs : List Nat} {b : StB} (h : Num σ j m v xs) (h1 : L ≠ j) (h2 : L ≠ m) (h3 : blkOf v ≠ some L) : Num (σ.set L b) j m v xs :=
  h.keep fun i b hi hb => by
    rw [List.getElem?_set_ne (fun e => by subst e; rcases hi with h | h | h; exact h1 h; exact h2 h; exact h3 h)]; exact hb
theorem fn109 : ctx.fn 109 = some c109 := by kernel_rfl
theorem around_cm (hS : OldO S) {σ : List StB} {j m : Nat} {v : PV} {xs : List Nat} {r u : List Int} {n i x : Nat} {f f' g g' : Nat → Nat} (ho : IsO r u n f f' g g') (h : Num σ j m v xs) (hl : xs.length ≤ 900) (hi : xs[i]? = some x) (hx : x < n) :
    Cm (ctx.plus S) 109 [.optr j 0, pO r u, pn i] σ 20 fun w σ' => ∃ v', w = .agg [pnn ((addL (addL xs (f x)) (g x)).idxOf (f x)), pnn ((addL (addL xs (f x)) (g x)).idxOf (g x))] ∧ Num σ' j m v' (addL (addL xs (f x)) (g x)) ∧ NF σ σ' j m v v' := by
  refine cm_of Onum (hS 109 (by decide)) fn109 fun c k0 hc => ?_
  have hn := ho.le
  have hil := (List.getElem?_eq_some_iff.1 hi).1
  obtain ⟨jv, ty, hcv, hv⟩ := h.gr.shape h.ne
  have hjv : blkOf v = some jv := by rcases hv with rfl | rfl <;> rfl
  have hjvl := contOf_lt hcv
  have hjl := h.jl
  have hml := h.ml
  refine ⟨by omega, by omega, ?_⟩
  refine ⟨by omega, ?_⟩
  refine ⟨by kernel_rfl, ?_⟩
  refine ⟨_, load_c (contOf_app (contOf_app push_cont)) rfl rfl, rfl, ?_⟩
  have hliv := h.liv
  rcases hv with hv | hv
  all_goals
    rw [hv] at hliv
    refine ⟨_, load_liv (push_old (push_old (push_old hliv))) rfl rfl, ?_⟩
    refine ⟨rfl, ?_⟩
    refine ⟨⟨by omega, by omega⟩, ?_⟩
    refine ⟨_, load_k rfl rfl (contOf_app (contOf_app (contOf_app hcv))) (at_map hi) (by show 0 + _ * 1 = i; omega), rfl, ?_⟩
    refine callq rfl (neighbours_ct S hS ho hx) (by omega) ?_
    rintro _ rfl
    obtain ⟨a, ha⟩ : ∃ a : Nat, (addL (addL xs (f x)) (g x)).idxOf (f x) = a := ⟨_, rfl⟩
    obtain ⟨b, hb⟩ : ∃ b : Nat, (addL (addL xs (f x)) (g x)).idxOf (g x) = b := ⟨_, rfl⟩
    rw [ha, hb]
    have ha1 : (addL xs (f x)).idxOf (f x) = a := by rw [← ha, addL_idx addL_self]
    refine ⟨fun q s => ∃ (k k' L6 L7 : Nat) (v' : PV) (σ' : List StB) (T : List PV), s = ⟨T, σ', k'⟩ ∧ Gt T 30 [(0, .optr j 0), (6, .optr L6 0), (7, .optr L7 0), (18, .agg [pnn (f x), pnn (g x)]), (19, pn k)] ∧ q = 2 - k ∧ k ≤ 2 ∧ k' ≤ k0 + 6 + 5 * k ∧ Hid (σ.length ≤ L6 ∧ L6 < L7 ∧ L7 < σ'.length ∧ blkOf v' ≠ some L6 ∧ blkOf v' ≠ some L7 ∧ NF σ σ' j m v v' ∧ σ'[L6]? = some (.live 107 [pn 0, pn 0]) ∧
      ((k = 0 ∧ Num σ' j m v' xs ∧ σ'[L7]? = some (.live 107 [pn 0, pn 0])) ∨ (k = 1 ∧ Num σ' j m v' (addL xs (f x)) ∧ σ'[L7]? = some (.live 107 [pnn a, pn 0])) ∨ (k = 2 ∧ Num σ' j m v' (addL (addL xs (f x)) (g x)) ∧ σ'[L7]? = some (.live 107 [pnn a, pnn b])))), ⟨_, ci ⟨0, _, _, _, v, _, _, rfl, ⟨rfl, rfl, rfl, rfl, rfl, rfl, trivial⟩, rfl, Nat.zero_le _, by omega, ⟨?_, ?_, ?_, ?_, ?_, ?_, ?_, .inl ⟨rfl, h.push.push.push, push_get⟩⟩⟩⟩, ?_⟩
    · simp
    · simp
    · simp
    · rw [hjv]; simp; omega
    · rw [hjv]; simp; omega
    · exact NF.push.trans (NF.push.trans NF.push)
    · exact push_old push_get
    rintro _ s ⟨k, k', L6, L7, v', σ', T, rfl, hT, rfl, hk, hk', hh⟩
    obtain ⟨J, rfl⟩ := gt_open hT
    clear hT
    obtain ⟨c1, c2, c3, c4, c5, c6, c7, c8⟩ := hh.h
    clear hh
    refine ⟨fun hlt => ?_, fun hge => ?_⟩
    · rcases c8 with ⟨rfl, d1, d2⟩ | ⟨rfl, d1, d2⟩ | ⟨rfl, d1, d2⟩
      · refine ⟨⟨by omega, by omega⟩, _, rfl, ?_⟩
        refine callm (number_cm S hS (x := f x) d1 (by omega)) (by omega) ?_
        rintro _ σ2 ⟨v2, rfl, e1, e2⟩
        rw [ha1]
        have g6 := e2.keep L6 _ (by omega) (by omega) c4 c7
        have g7 := e2.keep L7 _ (by omega) (by omega) c5 d2
        have b7 := (List.getElem?_eq_some_iff.1 g7).1
        refine ⟨⟨by omega, by omega⟩, ?_⟩
        refine ⟨_, _, g7, ⟨rfl, Nat.le_of_ble_eq_true rfl, rfl⟩, _, rfl, _, rfl, ?_⟩
        refine ⟨⟨by omega, by omega⟩, ?_⟩
        exact ⟨_, by omega, ci ⟨1, _, L6, L7, v2, _, _, rfl, ⟨rfl, rfl, rfl, rfl, rfl, rfl, trivial⟩, rfl, by omega, by omega, ⟨c1, c2, by rw [List.length_set]; omega, e2.blk L6 (by omega) c4, e2.blk L7 (by omega) c5, (c6.trans e2).set (by omega), by rw [List.getElem?_set_ne (by omega)]; exact g6, .inr (.inl ⟨rfl, e1.set (by omega) (by omega) (e2.blk L7 (by omega) c5), List.getElem?_set_self (by omega)⟩)⟩⟩⟩
      · refine ⟨⟨by omega, by omega⟩, _, rfl, ?_⟩
        have l2 : (addL xs (f x)).length ≤ xs.length + 1 := addL_len
        refine callm (number_cm S hS (x := g x) d1 (by omega)) (by omega) ?_
        rintro _ σ2 ⟨v2, rfl, e1, e2⟩
        rw [hb]
        have g6 := e2.keep L6 _ (by omega) (by omega) c4 c7
        have g7 := e2.keep L7 _ (by omega) (by omega) c5 d2
        have b7 := (List.getElem?_eq_some_iff.1 g7).1
        refine ⟨⟨by omega, by omega⟩, ?_⟩
        refine ⟨_, _, g7, ⟨rfl, Nat.le_of_ble_eq_true rfl, rfl⟩, _, rfl, _, rfl, ?_⟩
        refine ⟨⟨by omega, by omega⟩, ?_⟩
        exact ⟨_, by omega, ci ⟨2, _, L6, L7, v2, _, _, rfl, ⟨rfl, rfl, rfl, rfl, rfl, rfl, trivial⟩, rfl, by omega, by omega, ⟨c1, c2, by rw [List.length_set]; omega, e2.blk L6 (by omega) c4, e2.blk L7 (by omega) c5, (c6.trans e2).set (by omega), by rw [List.getElem?_set_ne (by omega)]; exact g6, .inr (.inr ⟨rfl, e1.set (by omega) (by omega) (e2.blk L7 (by omega) c5), List.getElem?_set_self (by omega)⟩)⟩⟩⟩
      · exact absurd hlt (by omega)
    · rcases c8 with ⟨rfl, d1, d2⟩ | ⟨rfl, d1, d2⟩ | ⟨rfl, d1, d2⟩
      · exact absurd hge (by omega)
      · exact absurd hge (by omega)
      · refine ⟨_, load_c (contOf_live d2) rfl rfl, ?_⟩
        refine ⟨_, _, c7, ⟨rfl, Nat.le_of_ble_eq_true rfl, rfl⟩, _, rfl, _, rfl, ?_⟩
        refine ⟨_, load_c (contOf_live (List.getElem?_set_self (by omega))) rfl rfl, ?_⟩
        exact endm [] (by dsimp only; omega) ⟨v', rfl, d1.set (by omega) (by omega) c4, c6.set c1⟩
end Go.PI
/- THE SQUARES THAT ARE REACHED. -/
open Go.Proofs
namespace Go.PI
open IM
set_option maxRecDepth 10000
set_option maxHeartbeats 4000000
variable (S : FuncId → Option (List AV → Heap → Option (AV × Heap)))
def NL (l : List Nat) : List Int := l.map fun (x : Nat) => (x : Int)
theorem NL_len {l : List Nat} : (NL l).length = l.length := by unfold NL; rw [List.length_map]
theorem pIs_NL {l : List Nat} : PV.lst l.length (l.map pnn) = pIs (NL l) := by
  unfold pIs
  rw [NL_len]
  unfold NL
  rw [List.map_map]
  rfl
theorem NL_get {l : List Nat} {i x : Nat} (h : l[i]? = some x) : (NL l)[i]? = some (x : Int) := by unfold NL; rw [List.getElem?_map, h]; rfl
theorem fn104 : ctx.fn 104 = some c104 := by kernel_rfl
theorem reached_ct (hS : OldO S) {r u : List Int} {n s : Nat} {f f' g g' : Nat → Nat} (ho : IsO r u n f f' g g') (hs : s < n) :
    Ct (ctx.plus S) 104 [pO r u, pn s] 3000 fun w => ∃ k, (bfs f g s k).length ≤ k ∧ w = pIs (NL (bfs f g s k)) := by
  have hn := ho.le
  have hlen := fun i => bfs_len (s := s) ho.pr ho.pu hs i
  refine ctO_of Onum (hS 104 (by decide)) fn104 ?_
  refine ⟨by omega, ?_⟩
  refine callm (numberingFrom_cm S hS (x := s)) (by omega) ?_
  rintro _ σ0 ⟨j0, m0, v0, rfl, a1, a2, a3, a4, a5⟩
  refine ⟨fun q st => ∃ (i b j m : Nat) (v : PV) (σ : List StB) (T : List PV), st = ⟨T, σ, b⟩ ∧ Gt T 26 [(2, .optr 0 0), (5, .optr j 0), (6, pn i)] ∧ q = n - i ∧ i ≤ n ∧ b ≤ 10 + 24 * i ∧ Hid (σ[0]? = some (.live 24 [pIs r, pIs u]) ∧ j ≠ 0 ∧ m ≠ 0 ∧ blkOf v ≠ some 0 ∧ Num σ j m v (bfs f g s i)), ⟨_, ci ⟨0, _, j0, m0, v0, _, _, rfl, ⟨rfl, rfl, rfl, rfl, trivial⟩, rfl, Nat.zero_le _, by omega, ⟨a2 0 _ rfl, by simp at a3; omega, by simp at a4; omega, a5 0 (by simp), a1⟩⟩⟩, ?_⟩
  rintro _ st ⟨i, b, j, m, v, σ, T, rfl, hT, rfl, hi, hb, hh⟩
  obtain ⟨J, rfl⟩ := gt_open hT
  clear hT
  obtain ⟨c1, c2, c3, c4, c5⟩ := hh.h
  clear hh
  obtain ⟨jv, ty, hcv, hv⟩ := c5.gr.shape c5.ne
  have hliv := c5.liv
  have hL := hlen i
  rcases hv with hv | hv
  all_goals
    rw [hv] at hliv
    refine ⟨_, load_liv hliv rfl rfl, ?_⟩
    refine ⟨fun hlt => ?_, fun hge => ?_⟩
    · have hil : i < (bfs f g s i).length := by omega
      obtain ⟨x, hx⟩ : ∃ x, (bfs f g s i)[i]? = some x := ⟨_, List.getElem?_eq_getElem hil⟩
      have hxn := bfs_lt ho.pr ho.pu hs i x (List.mem_of_getElem? hx)
      refine ⟨_, load_c (contOf_live c1) rfl rfl, ?_⟩
      refine callm (around_cm S hS ho c5 (by omega) hx hxn) (by omega) ?_
      rintro _ σ2 ⟨v2, rfl, e1, e2⟩
      rw [← nxt_at hx] at e1
      refine ⟨⟨by omega, by omega⟩, ?_⟩
      exact ⟨_, by omega, ci ⟨i + 1, _, j, m, v2, _, _, rfl, ⟨rfl, rfl, rfl, rfl, trivial⟩, rfl, by omega, by omega, ⟨e2.keep 0 _ (by omega) (by omega) c4 c1, c2, c3, e2.blk 0 ((List.getElem?_eq_some_iff.1 c1).1) c4, e1⟩⟩⟩
    · refine ⟨_, load_liv hliv rfl rfl, ?_⟩
      obtain ⟨σ', hf⟩ := c5.gr.fz
      rw [hv] at hf
      exact endf hf ⟨i, by omega, pIs_NL⟩
end Go.PI
/- WHETHER AN ORIGAMI IS CONNECTED, of the program. -/
open Go.Proofs
namespace Go.PI
open IM
set_option maxRecDepth 10000
set_option maxHeartbeats 4000000
variable (S : FuncId → Option (List AV → Heap → Option (AV × Heap)))
theorem fn114 : ctx.fn 114 = some c114 := by kernel_rfl
theorem isSplit_ct (hS : OldO S) {r u : List Int} {n : Nat} {f f' g g' : Nat → Nat} (ho : IsO r u n f f' g g') :
    Ct (ctx.plus S) 114 [pO r u] 3100 fun w => (Conn n f g ∧ w = .bool false) ∨ (¬ Conn n f g ∧ w = .bool true) := by
  have hn := ho.le
  have hrl := ho.l1.1
  refine ct_of (hS 114 (by decide)) fn114 ?_
  refine ⟨by omega, ?_⟩
  refine ⟨by kernel_rfl, ?_⟩
  refine ⟨_, rfl, rfl, ?_⟩
  refine callq rfl (reached_ct S hS ho ho.pos) (by omega) ?_
  rintro _ ⟨k, hk, rfl⟩
  have h1 := conn_len ho.pr ho.pu ho.pos hk
  have h2 := bfs_len ho.pr ho.pu ho.pos k
  have h3 : (NL (bfs f g 0 k)).length = (bfs f g 0 k).length := NL_len
  refine ⟨_, rfl, rfl, ?_⟩
  refine ⟨fun h => ?_, fun h => ?_⟩
  · have h : ((NL (bfs f g 0 k)).length : Int) < (r.length : Int) := h
    exact endq rfl (.inr ⟨fun hc => by have := h1.2 hc; omega, rfl⟩)
  · have h : (r.length : Int) ≤ ((NL (bfs f g 0 k)).length : Int) := h
    exact endq rfl (.inl ⟨h1.1 (by omega), rfl⟩)
theorem fn137 : ctx.fn 137 = some c137 := by kernel_rfl
theorem indexSplit_ct (hS : OldO S) {r u : List Int} {n : Nat} {f f' g g' : Nat → Nat} (ho : IsO r u n f f' g g') :
    Ct (ctx.plus S) 137 [pOs [(r, u)], .fn 114] 3200 fun w => (Conn n f g ∧ w = pn (-1)) ∨ (¬ Conn n f g ∧ w = pn 0) := by
  refine ct_of (hS 137 (by decide)) fn137 ?_
  refine ⟨fun m s => ∃ (i b : Nat) (T : List PV), s = ⟨T, [], b⟩ ∧ Gt T 19 [(0, pOs [(r, u)]), (1, .fn 114), (7, pn 1), (8, pn i)] ∧ m = 1 - i ∧ i ≤ 1 ∧ b ≤ 3100 * i ∧ Hid (0 < i → Conn n f g), ⟨_, ci ⟨0, 0, _, rfl, ⟨rfl, rfl, rfl, rfl, rfl, trivial⟩, rfl, Nat.zero_le _, Nat.le_refl _, ⟨fun h => by omega⟩⟩⟩, ?_⟩
  rintro _ s ⟨i, b, T, rfl, hT, rfl, hi, hb, hh⟩
  obtain ⟨J, rfl⟩ := gt_open hT
  clear hT
  refine ⟨fun hlt => ?_, fun hge => ?_⟩
  · have hi0 : i = 0 := by omega
    subst hi0
    refine ⟨⟨⟨by omega, by omega⟩, by show 0 * 2 ≤ _; omega⟩, ?_⟩
    refine ⟨pO r u, rfl, ?_⟩
    refine callq rfl (isSplit_ct S hS ho) (by omega) ?_
    rintro _ (⟨hc, rfl⟩ | ⟨hc, rfl⟩)
    · refine ⟨⟨by omega, by omega⟩, ?_⟩
      exact ⟨_, by omega, ci ⟨1, _, _, rfl, ⟨rfl, rfl, rfl, rfl, rfl, trivial⟩, rfl, by omega, by omega, ⟨fun _ => hc⟩⟩⟩
    · exact endq rfl (.inr ⟨hc, rfl⟩)
  · exact endq rfl (.inl ⟨hh.h (by omega), rfl⟩)
theorem fn113 : ctx.fn 113 = some c113 := by kernel_rfl
theorem containsSplit_ct (hS : OldO S) {r u : List Int} {n : Nat} {f f' g g' : Nat → Nat} (ho : IsO r u n f f' g g') :
    Ct (ctx.plus S) 113 [pOs [(r, u)], .fn 114] 3200 fun w => (Conn n f g ∧ w = .bool false) ∨ (¬ Conn n f g ∧ w = .bool true) := by
  refine ct_of (hS 113 (by decide)) fn113 ?_
  refine callq rfl (indexSplit_ct S hS ho) (by omega) ?_
  rintro _ (⟨hc, rfl⟩ | ⟨hc, rfl⟩)
  · exact ⟨fun h => by omega, fun _ => endq rfl (.inl ⟨hc, rfl⟩)⟩
  · exact ⟨fun _ => endq rfl (.inr ⟨hc, rfl⟩), fun h => by omega⟩
theorem fn72 : ctx.fn 72 = some c72 := by kernel_rfl
open Classical in
noncomputable def cc (n : Nat) (f g : Nat → Nat) : Int := if Conn n f g then 0 else 16
theorem checkConn_ok (hS : OldO S) {r u : List Int} {n : Nat} {f f' g g' : Nat → Nat} (ho : IsO r u n f f' g g') : Ct (ctx.plus S) 72 [pOs [(r, u)]] 3300 fun v => v = pn (cc n f g) := by
  have hl := ho.l1
  have hn := ho.le
  have h0 := ho.chk
  refine ct_of (hS 72 (by decide)) fn72 ?_
  refine callq rfl (check1_ct S hS (by omega) (by omega)) (by omega) ?_
  rintro _ rfl
  rw [h0]
  refine ⟨fun _ => ?_, fun h => absurd rfl h⟩
  refine callq rfl (containsSplit_ct S hS ho) (by omega) ?_
  rintro _ (⟨hc, rfl⟩ | ⟨hc, rfl⟩)
  · exact endq rfl (by unfold cc; rw [if_pos hc])
  · exact endq rfl (by unfold cc; rw [if_neg hc])
end Go.PI
/- COMPONENTS of the reference. -/
open Go.Proofs
namespace Go.PI
open IM
set_option maxRecDepth 10000
set_option maxHeartbeats 4000000
variable (S : FuncId → Option (List AV → Heap → Option (AV × Heap)))
structure FlI (n : Nat) (f g : Nat → Nat) (s i j : Nat) (fl : List Bool) : Prop where
  len : fl.length = n
  snd : ∀ y, fl[y]? = some true → Rch f g s y
  rnd : ∀ y, y < n → RchK f g s i y → fl[y]? = some true
  nxt : ∀ z, z < j → RchK f g s i z → fl[f z]? = some true ∧ fl[g z]? = some true
theorem set_true {fl : List Bool} {q y : Nat} (h : fl[y]? = some true) : (fl.set q true)[y]? = some true := by
  by_cases e : q = y
  · subst e; rw [List.getElem?_set_self (List.getElem?_eq_some_iff.1 h).1]
  · rw [List.getElem?_set_ne e]; exact h
theorem set_true_inv {fl : List Bool} {q y : Nat} (h : (fl.set q true)[y]? = some true) : y = q ∨ fl[y]? = some true := by
  by_cases e : q = y
  · exact .inl e.symm
  · rw [List.getElem?_set_ne e] at h; exact .inr h
section
variable {n s i j : Nat} {f f' g g' : Nat → Nat} {fl : List Bool}
theorem fl_mark (h : FlI n f g s i j fl) (hj : fl[j]? = some true) (hf : f j < n) (hg : g j < n) : FlI n f g s i (j + 1) ((fl.set (f j) true).set (g j) true) := by
  have hr := h.snd j hj
  have hl := h.len
  refine ⟨by simp [hl], fun y hy => ?_, fun y hy hk => set_true (set_true (h.rnd y hy hk)), fun z hz hk => ?_⟩
  · rcases set_true_inv hy with rfl | hy
    · exact .g hr
    · rcases set_true_inv hy with rfl | hy
      · exact .f hr
      · exact h.snd y hy
  · by_cases e : z = j
    · subst e
      exact ⟨set_true (by rw [List.getElem?_set_self (by omega)]), by rw [List.getElem?_set_self (by rw [List.length_set]; omega)]⟩
    · have := h.nxt z (by omega) hk
      exact ⟨set_true (set_true this.1), set_true (set_true this.2)⟩
theorem fl_skip (h : FlI n f g s i j fl) (hj : fl[j]? = some false) : FlI n f g s i (j + 1) fl := by
  refine ⟨h.len, h.snd, h.rnd, fun z hz hk => ?_⟩
  by_cases e : z = j
  · subst e
    have := h.rnd z (by have := (List.getElem?_eq_some_iff.1 hj).1; have := h.len; omega) hk
    rw [hj] at this; cases this
  · exact h.nxt z (by omega) hk
theorem fl_next (pf : IsP n f f') (pg : IsP n g g') (hs : s < n) (h : FlI n f g s i n fl) : FlI n f g s (i + 1) 0 fl := by
  refine ⟨h.len, h.snd, fun y hy hk => ?_, fun z hz => by omega⟩
  rcases hk with hk | ⟨z, hk, rfl | rfl⟩
  · exact h.rnd y hy hk
  · exact (h.nxt z (rch_lt pf pg hs (rchK_rch hk)) hk).1
  · exact (h.nxt z (rch_lt pf pg hs (rchK_rch hk)) hk).2
theorem fl_zero (hs : s < n) : FlI n f g s 0 0 ((List.replicate n false).set s true) := by
  refine ⟨by simp, fun y hy => ?_, fun y hy hk => ?_, fun z hz => by omega⟩
  · rcases set_true_inv hy with rfl | hy
    · exact .refl
    · rw [List.getElem?_replicate] at hy
      split at hy <;> simp at hy
  · rw [show y = s from hk, List.getElem?_set_self (by simpa using hs)]
theorem fl_done (pf : IsP n f f') (pg : IsP n g g') (hs : s < n) (h : FlI n f g s n j fl) (y : Nat) : fl[y]? = some true ↔ Rch f g s y := by
  refine ⟨h.snd y, fun hr => ?_⟩
  have hm := bfs_all (bfs_len pf pg hs n) hr
  obtain ⟨p, hp⟩ := List.getElem?_of_mem hm
  have hd := bfs_dist n p y hp
  have hpl := (List.getElem?_eq_some_iff.1 hp).1
  have hbl := bfs_len pf pg hs n
  have := rchK_mono (n - p) hd
  rw [show p + (n - p) = n by omega] at this
  exact h.rnd y (rch_lt pf pg hs hr) this
end
open Classical in
noncomputable def compTo (f g : Nat → Nat) (s k : Nat) : List Nat := (List.range k).filter fun y => decide (Rch f g s y)
theorem compTo_yes {f g : Nat → Nat} {s k : Nat} (h : Rch f g s k) : compTo f g s (k + 1) = compTo f g s k ++ [k] := by
  unfold compTo
  rw [List.range_succ, List.filter_append, List.filter_cons_of_pos (by simpa using h)]
  rfl
theorem compTo_no {f g : Nat → Nat} {s k : Nat} (h : ¬ Rch f g s k) : compTo f g s (k + 1) = compTo f g s k := by
  unfold compTo
  rw [List.range_succ, List.filter_append, List.filter_cons_of_neg (by simpa using h)]
  simp
theorem compTo_len {f g : Nat → Nat} {s k : Nat} : (compTo f g s k).length ≤ k := by
  have := List.length_filter_le (fun y => @decide (Rch f g s y) (Classical.propDecidable _)) (List.range k)
  rw [List.length_range] at this
  exact this
theorem fn68 : ctx.fn 68 = some c68 := by kernel_rfl
theorem component_ct (hS : OldO S) {r u : List Int} {n s : Nat} {f f' g g' : Nat → Nat} (ho : IsO r u n f f' g g') (hs : s < n) :
    Ct (ctx.plus S) 68 [pO r u, pn s] 5000 fun w => w = pIs (NL (compTo f g s n)) := by
  have hn := ho.le
  have hrl := ho.l1.1
  subst hrl
  have gr : ∀ i, i < r.length → r[i]? = some (f i : Int) := fun i hi => by rw [ho.hr, PL_get hi]
  have gu : ∀ i, i < r.length → u[i]? = some (g i : Int) := fun i hi => by rw [ho.hu, PL_get hi]
  have hul := ho.l1.2
  refine ct_of (hS 68 (by decide)) fn68 ?_
  refine ⟨by omega, ?_⟩
  refine ⟨_, rfl, ?_⟩
  refine callq rfl (size_ct S hS) (by omega) ?_
  rintro _ rfl
  refine ⟨by omega, ⟨by omega, by omega, by omega⟩, _, flg_zero, ?_⟩
  refine ⟨⟨by omega, by omega⟩, ?_⟩
  refine ⟨_, _, rfl, ⟨rfl, by rw [List.length_map, List.length_replicate]; show 0 + s * 1 + 1 ≤ _; omega, rfl⟩, _, flg_put (by show 0 + s * 1 = s; omega) (by rw [List.length_replicate]; omega), _, rfl, ?_⟩
  refine ⟨fun m st => ∃ (i b : Nat) (fl : List Bool) (T : List PV), st = ⟨T, [.live 24 [pIs r, pIs u], .live 4 (fl.map PV.bool)], b⟩ ∧ Gt T 61 [(2, .optr 0 0), (5, .own 1 0 r.length r.length 1), (6, pn i)] ∧ m = r.length - i ∧ i ≤ r.length ∧ b ≤ 4 + 62 * i ∧ Hid (FlI r.length f g s i 0 fl), ⟨_, ci ⟨0, _, _, _, rfl, ⟨rfl, rfl, rfl, rfl, trivial⟩, rfl, Nat.zero_le _, by omega, ⟨fl_zero hs⟩⟩⟩, ?_⟩
  rintro _ st ⟨i, b, fl, T, rfl, hT, rfl, hi, hb, hh⟩
  obtain ⟨J, rfl⟩ := gt_open hT
  clear hT
  refine ⟨_, rfl, ?_⟩
  refine callq rfl (size_ct S hS) (by omega) ?_
  rintro _ rfl
  refine ⟨fun hlt => ?_, fun hge => ?_⟩
  · refine ⟨fun m st => ∃ (j b' : Nat) (fl : List Bool) (T : List PV), st = ⟨T, [.live 24 [pIs r, pIs u], .live 4 (fl.map PV.bool)], b'⟩ ∧ Gt T 61 [(2, .optr 0 0), (5, .own 1 0 r.length r.length 1), (6, pn i), (7, pn j)] ∧ m = r.length - j ∧ j ≤ r.length ∧ b' ≤ 5 + 62 * i + j ∧ Hid (FlI r.length f g s i j fl), ⟨_, ci ⟨0, _, _, _, rfl, ⟨rfl, rfl, rfl, rfl, rfl, trivial⟩, rfl, Nat.zero_le _, by omega, hh⟩⟩, ?_⟩
    clear hh fl
    rintro _ st ⟨j, b', fl, T, rfl, hT, rfl, hj, hb', hh⟩
    obtain ⟨J, rfl⟩ := gt_open hT
    clear hT
    have hfl := hh.h.len
    refine ⟨_, rfl, ?_⟩
    refine callq rfl (size_ct S hS) (by omega) ?_
    rintro _ rfl
    refine ⟨fun hlt2 => ?_, fun hge2 => ?_⟩
    · have hjn : j < r.length := by omega
      have c1 := ho.pr.lt j hjn
      have c2 := ho.pu.lt j hjn
      obtain ⟨q, hq⟩ : ∃ q, fl[j]? = some q := ⟨fl[j]'(by omega), List.getElem?_eq_getElem _⟩
      refine ⟨⟨by omega, by omega⟩, ?_⟩
      refine ⟨_, load_k rfl rfl rfl (at_map hq) (by show 0 + _ * 1 = j; omega), ?_⟩
      cases q with
      | true =>
        refine ⟨by kernel_rfl, ?_⟩
        refine ⟨_, rfl, rfl, ?_⟩
        refine ⟨⟨⟨by omega, by omega⟩, len_map_le (by omega)⟩, ?_⟩
        refine ⟨_, ld (at_map (gr j hjn)) (by show _ * 1 = j; omega), rfl, ?_⟩
        refine ⟨_, rfl, rfl, ?_⟩
        refine ⟨⟨⟨by omega, by omega⟩, len_map_le (by omega)⟩, ?_⟩
        refine ⟨_, ld (at_map (gu j hjn)) (by show _ * 1 = j; omega), rfl, ?_⟩
        refine ⟨⟨by omega, by omega⟩, ?_⟩
        refine ⟨_, _, rfl, ⟨rfl, by rw [List.length_map]; show 0 + f j * 1 + 1 ≤ _; omega, rfl⟩, _, flg_put (by show 0 + f j * 1 = f j; omega) (by omega), _, rfl, ?_⟩
        refine ⟨⟨by omega, by omega⟩, ?_⟩
        refine ⟨_, _, rfl, ⟨rfl, by rw [List.length_map, List.length_set]; show 0 + g j * 1 + 1 ≤ _; omega, rfl⟩, _, flg_put (by show 0 + g j * 1 = g j; omega) (by rw [List.length_set]; omega), _, rfl, ?_⟩
        refine ⟨⟨by omega, by omega⟩, ?_⟩
        exact ⟨_, by omega, ci ⟨j + 1, _, _, _, rfl, ⟨rfl, rfl, rfl, rfl, rfl, trivial⟩, rfl, by omega, by omega, ⟨fl_mark hh.h hq c1 c2⟩⟩⟩
      | false =>
        refine ⟨⟨by omega, by omega⟩, ?_⟩
        exact ⟨_, by omega, ci ⟨j + 1, _, fl, _, rfl, ⟨rfl, rfl, rfl, rfl, rfl, trivial⟩, rfl, by omega, by omega, ⟨fl_skip hh.h hq⟩⟩⟩
    · have hjn : j = r.length := by omega
      subst hjn
      refine ⟨⟨by omega, by omega⟩, ?_⟩
      exact ⟨_, by omega, ci ⟨i + 1, _, fl, _, rfl, ⟨rfl, rfl, rfl, rfl, trivial⟩, rfl, by omega, by omega, ⟨fl_next ho.pr ho.pu hs hh.h⟩⟩⟩
  · have hin : i = r.length := by omega
    subst hin
    have hdone := fl_done ho.pr ho.pu hs hh.h
    have hfl := hh.h.len
    refine ⟨fun m st => ∃ (k b' : Nat) (v : PV) (σ : List StB) (T : List PV), st = ⟨T, σ, b'⟩ ∧ Gt T 61 [(2, .optr 0 0), (5, .own 1 0 r.length r.length 1), (8, v), (9, pn k)] ∧ m = r.length - k ∧ k ≤ r.length ∧ b' ≤ 70 + 62 * r.length + 3 * k ∧ Hid (σ[0]? = some (.live 24 [pIs r, pIs u]) ∧ σ[1]? = some (.live 4 (fl.map PV.bool)) ∧ blkOf v ≠ some 0 ∧ blkOf v ≠ some 1 ∧ Gr pnn 3 v σ (compTo f g s k)), ⟨_, ci ⟨0, _, .nils, _, _, rfl, ⟨rfl, rfl, rfl, rfl, rfl, trivial⟩, rfl, Nat.zero_le _, by omega, ⟨rfl, rfl, (fun h => by cases h), (fun h => by cases h), .nil⟩⟩⟩, ?_⟩
    rintro _ st ⟨k, b', v, σ, T, rfl, hT, rfl, hk, hb', hh2⟩
    obtain ⟨J, rfl⟩ := gt_open hT
    clear hT
    obtain ⟨d1, d2, d3, d4, d5⟩ := hh2.h
    refine ⟨_, load_c (contOf_live d1) rfl rfl, ?_⟩
    refine callq rfl (size_ct S hS (r := r) (u := u)) (by omega) ?_
    rintro _ rfl
    refine ⟨fun hlt2 => ?_, fun hge2 => ?_⟩
    · have hki : k < r.length := by omega
      obtain ⟨q, hq⟩ : ∃ q, fl[k]? = some q := ⟨fl[k]'(by omega), List.getElem?_eq_getElem _⟩
      refine ⟨⟨by omega, by omega⟩, ?_⟩
      refine ⟨_, load_k rfl rfl (contOf_live d2) (at_map hq) (by show 0 + _ * 1 = k; omega), ?_⟩
      cases q with
      | true =>
        have hr := (hdone k).1 hq
        refine ⟨by omega, part1 fzI ⟨[pnn k], rfl, ?_⟩⟩
        have hcl : (compTo f g s k).length ≤ k := compTo_len
        have l0 := (List.getElem?_eq_some_iff.1 d1).1
        have l1 := (List.getElem?_eq_some_iff.1 d2).1
        refine appG (f := pnn) (e := 3) (y := k) d5.push push_cont rfl rfl rfl rfl (by kernel_rfl) rfl rfl (by omega) (by omega) fun v' σ' hv' hkp hbv => ?_
        have hne : ∀ q, q < σ.length → blkOf v' ≠ some q := fun q hq e => by
          rw [hbv] at e; have := Option.some.inj e; rw [List.length_append, List.length_singleton] at this; omega
        refine ⟨⟨by omega, by omega⟩, ?_⟩
        exact ⟨_, by omega, ci ⟨k + 1, _, v', σ', _, rfl, ⟨rfl, rfl, rfl, rfl, rfl, trivial⟩, rfl, by omega, by omega, ⟨hkp 0 _ d3 (push_old d1), hkp 1 _ d4 (push_old d2), hne 0 l0, hne 1 l1, by rw [compTo_yes hr]; exact hv'⟩⟩⟩
      | false =>
        have hr : ¬ Rch f g s k := fun h => by have := (hdone k).2 h; rw [hq] at this; cases this
        refine ⟨⟨by omega, by omega⟩, ?_⟩
        exact ⟨_, by omega, ci ⟨k + 1, _, v, σ, _, rfl, ⟨rfl, rfl, rfl, rfl, rfl, trivial⟩, rfl, by omega, by omega, ⟨d1, d2, d3, d4, by rw [compTo_no hr]; exact d5⟩⟩⟩
    · have hki : k = r.length := by omega
      obtain ⟨σ', hf⟩ := d5.fz
      exact endf hf (by rw [hki]; exact pIs_NL)
end Go.PI
/- COMPONENTS of the reference, all of them; whether an origami is one that is connected. -/
open Go.Proofs
namespace Go.PI
open IM
set_option maxRecDepth 10000
set_option maxHeartbeats 4000000
variable (S : FuncId → Option (List AV → Heap → Option (AV × Heap)))
def Low (f g : Nat → Nat) (s : Nat) : Prop := ∀ y, y < s → ¬ Rch f g s y
theorem mem_compTo {f g : Nat → Nat} {s n y : Nat} : y ∈ compTo f g s n ↔ y < n ∧ Rch f g s y := by
  unfold compTo
  rw [List.mem_filter, List.mem_range]
  simp
theorem comp_head {f g : Nat → Nat} {s n : Nat} (hs : s < n) : ∃ h, (compTo f g s n)[0]? = some h ∧ Rch f g s h ∧ h ≤ s ∧ ∀ y, y < n → Rch f g s y → h ≤ y := by
  have hm : s ∈ compTo f g s n := mem_compTo.2 ⟨hs, .refl⟩
  have hp : (compTo f g s n).Pairwise (· < ·) := List.Pairwise.filter _ List.pairwise_lt_range
  have hmem := fun y => mem_compTo (f := f) (g := g) (s := s) (n := n) (y := y)
  cases hc : compTo f g s n with
  | nil => rw [hc] at hm; simp at hm
  | cons h t =>
    rw [hc] at hp hm hmem
    have hall : ∀ y, y < n → Rch f g s y → h ≤ y := fun y hy hr => by
      rcases List.mem_cons.1 ((hmem y).2 ⟨hy, hr⟩) with e | e
      · omega
      · have := List.rel_of_pairwise_cons hp e; omega
    exact ⟨h, rfl, ((hmem h).1 (by simp)).2, hall s hs .refl, hall⟩
theorem head_low {f g : Nat → Nat} {s n h : Nat} (hs : s < n) (hr : Rch f g s h) (hle : h ≤ s) (ha : ∀ y, y < n → Rch f g s y → h ≤ y) : h = s ↔ Low f g s := by
  constructor
  · rintro rfl y hy hc
    have := ha y (by omega) hc
    omega
  · intro hl
    refine Classical.byContradiction fun hne => hl h (by omega) hr
open Classical in
noncomputable def lows (f g : Nat → Nat) (k : Nat) : List Nat := (List.range k).filter fun y => decide (Low f g y)
theorem mem_lows {f g : Nat → Nat} {k y : Nat} : y ∈ lows f g k ↔ y < k ∧ Low f g y := by
  unfold lows
  rw [List.mem_filter, List.mem_range]
  simp
theorem lows_yes {f g : Nat → Nat} {k : Nat} (h : Low f g k) : lows f g (k + 1) = lows f g k ++ [k] := by
  unfold lows
  rw [List.range_succ, List.filter_append, List.filter_cons_of_pos (by simpa using h)]
  rfl
theorem lows_no {f g : Nat → Nat} {k : Nat} (h : ¬ Low f g k) : lows f g (k + 1) = lows f g k := by
  unfold lows
  rw [List.range_succ, List.filter_append, List.filter_cons_of_neg (by simpa using h)]
  simp
theorem lows_len {f g : Nat → Nat} {k : Nat} : (lows f g k).length ≤ k := by
  have := List.length_filter_le (fun y => @decide (Low f g y) (Classical.propDecidable _)) (List.range k)
  rw [List.length_range] at this
  exact this
theorem lows_nodup {f g : Nat → Nat} {k : Nat} : (lows f g k).Nodup := by
  unfold lows List.Nodup
  exact (List.Pairwise.filter _ List.pairwise_lt_range).imp fun h e => by omega
noncomputable def compsTo (f g : Nat → Nat) (n k : Nat) : List (List Int) := (lows f g k).map fun s => NL (compTo f g s n)
theorem compsTo_len {f g : Nat → Nat} {n k : Nat} : (compsTo f g n k).length = (lows f g k).length := by unfold compsTo; rw [List.length_map]
theorem compsTo_yes {f g : Nat → Nat} {n k : Nat} (h : Low f g k) : compsTo f g n (k + 1) = compsTo f g n k ++ [NL (compTo f g k n)] := by
  unfold compsTo
  rw [lows_yes h, List.map_append]
  rfl
theorem compsTo_no {f g : Nat → Nat} {n k : Nat} (h : ¬ Low f g k) : compsTo f g n (k + 1) = compsTo f g n k := by
  unfold compsTo
  rw [lows_no h]
theorem low_zero {f g : Nat → Nat} : Low f g 0 := fun y hy => by omega
theorem conn_comps {n : Nat} {f f' g g' : Nat → Nat} (pf : IsP n f f') (pg : IsP n g g') (h0 : 0 < n) : (compsTo f g n n).length = 1 ↔ Conn n f g := by
  rw [compsTo_len]
  have hz : 0 ∈ lows f g n := mem_lows.2 ⟨h0, low_zero⟩
  constructor
  · intro e y hy
    refine Classical.byContradiction fun hc => ?_
    obtain ⟨h, -, hr, hle, ha⟩ := comp_head (f := f) (g := g) hy
    have hhn : h < n := by omega
    have hlow : Low f g h := fun z hz hzr => by
      have := ha z (by omega) (hr.trans hzr)
      omega
    have hne : h ≠ 0 := fun e0 => by
      subst e0
      exact hc (hr.symm pf pg hy)
    have := len_le_of (l := [0, h]) (m := lows f g n) (by simp; omega) fun z hz' => by
      simp at hz'
      rcases hz' with rfl | rfl
      · exact hz
      · exact mem_lows.2 ⟨hhn, hlow⟩
    simp at this
    omega
  · intro hc
    have h1 := len_le_of (l := lows f g n) (m := [0]) lows_nodup fun z hz' => by
      obtain ⟨a, b⟩ := mem_lows.1 hz'
      rw [List.mem_singleton]
      refine Classical.byContradiction fun hne => b 0 (by omega) ((hc z a).symm pf pg h0)
    have h2 := len_le_of (l := [0]) (m := lows f g n) (by simp) fun z hz' => by
      rw [List.mem_singleton.1 hz']; exact hz
    simp at h1 h2
    omega
theorem fn20 : ctx.fn 20 = some c20 := by kernel_rfl
theorem rcomponents_ct (hS : OldO S) {r u : List Int} {n : Nat} {f f' g g' : Nat → Nat} (ho : IsO r u n f f' g g') :
    Ct (ctx.plus S) 20 [pO r u] 310000 fun w => w = pM (compsTo f g n n) := by
  have hn := ho.le
  have hrl := ho.l1.1
  refine ct_of (hS 20 (by decide)) fn20 ?_
  refine ⟨by omega, ?_⟩
  refine ⟨fun m st => ∃ (k b : Nat) (v : PV) (σ : List StB) (T : List PV), st = ⟨T, σ, b⟩ ∧ Gt T 25 [(1, .optr 0 0), (3, v), (4, pn k)] ∧ m = n - k ∧ k ≤ n ∧ b ≤ 4 + 5010 * k ∧ Hid (σ[0]? = some (.live 24 [pIs r, pIs u]) ∧ blkOf v ≠ some 0 ∧ Gr pIs 22 v σ (compsTo f g n k)), ⟨_, ci ⟨0, _, .nils, _, _, rfl, ⟨rfl, rfl, rfl, rfl, trivial⟩, rfl, Nat.zero_le _, by omega, ⟨rfl, (fun h => by cases h), .nil⟩⟩⟩, ?_⟩
  rintro _ st ⟨k, b, v, σ, T, rfl, hT, rfl, hk, hb, hh⟩
  obtain ⟨J, rfl⟩ := gt_open hT
  clear hT
  obtain ⟨d1, d3, d5⟩ := hh.h
  have l0 := (List.getElem?_eq_some_iff.1 d1).1
  refine ⟨_, load_c (contOf_live d1) rfl rfl, ?_⟩
  refine callq rfl (size_ct S hS (r := r) (u := u)) (by omega) ?_
  rintro _ rfl
  refine ⟨fun hlt => ?_, fun hge => ?_⟩
  · have hkn : k < n := by omega
    obtain ⟨h, hh0, hr, hle, ha⟩ := comp_head (f := f) (g := g) hkn
    have hlow := head_low hkn hr hle ha
    have hcl : (compTo f g k n).length ≤ n := compTo_len
    have hnl : (NL (compTo f g k n)).length = (compTo f g k n).length := NL_len
    have hpos := (List.getElem?_eq_some_iff.1 hh0).1
    refine ⟨_, load_c (contOf_live d1) rfl rfl, ?_⟩
    refine callq rfl (component_ct S hS ho hkn) (by omega) ?_
    rintro _ rfl
    refine ⟨⟨⟨by omega, by omega⟩, len_map_le (by omega)⟩, ?_⟩
    refine ⟨_, ld (at_map (NL_get hh0)) (by show _ * 1 = 0; omega), ?_⟩
    refine ⟨fun heq => ?_, fun hne => ?_⟩
    · have hL : Low f g k := hlow.1 (by omega)
      refine ⟨by omega, part1 fzL ⟨[pIs (NL (compTo f g k n))], rfl, ?_⟩⟩
      have hcn : (compsTo f g n k).length ≤ k := by rw [compsTo_len]; exact lows_len
      refine appG (f := pIs) (e := 22) (y := NL (compTo f g k n)) d5.push push_cont rfl rfl rfl rfl (by kernel_rfl) rfl rfl (by omega) (by omega) fun v' σ' hv' hkp hbv => ?_
      have hne : ∀ q, q < σ.length → blkOf v' ≠ some q := fun q hq e => by
        rw [hbv] at e; have := Option.some.inj e; rw [List.length_append, List.length_singleton] at this; omega
      refine ⟨⟨by omega, by omega⟩, ?_⟩
      exact ⟨_, by omega, ci ⟨k + 1, _, v', σ', _, rfl, ⟨rfl, rfl, rfl, rfl, trivial⟩, rfl, by omega, by omega, ⟨hkp 0 _ d3 (push_old d1), hne 0 l0, by rw [compsTo_yes hL]; exact hv'⟩⟩⟩
    · have hL : ¬ Low f g k := fun hc => hne (by have := hlow.2 hc; omega)
      refine ⟨⟨by omega, by omega⟩, ?_⟩
      exact ⟨_, by omega, ci ⟨k + 1, _, v, σ, _, rfl, ⟨rfl, rfl, rfl, rfl, trivial⟩, rfl, by omega, by omega, ⟨d1, d3, by rw [compsTo_no hL]; exact d5⟩⟩⟩
  · have hkn : k = n := by omega
    subst hkn
    obtain ⟨σ', hf⟩ := d5.fz
    exact endf hf rfl
theorem fn74 : ctx.fn 74 = some c74 := by kernel_rfl
theorem rconnected_ct (hS : OldO S) {r u : List Int} {n : Nat} {f f' g g' : Nat → Nat} (ho : IsO r u n f f' g g') :
    Ct (ctx.plus S) 74 [pO r u] 310001 fun w => (Conn n f g ∧ w = .bool true) ∨ (¬ Conn n f g ∧ w = .bool false) := by
  have h1 := conn_comps ho.pr ho.pu ho.pos
  refine ct_of (hS 74 (by decide)) fn74 ?_
  refine ⟨by omega, ?_⟩
  refine ⟨_, rfl, ?_⟩
  refine callq rfl (rcomponents_ct S hS ho) (by omega) ?_
  rintro _ rfl
  refine ⟨fun h => ?_, fun h => ?_⟩
  · exact endq rfl (.inl ⟨h1.1 (by omega), rfl⟩)
  · exact endq rfl (.inr ⟨fun hc => h (by have := h1.2 hc; omega), rfl⟩)
end Go.PI
/- THE ORDER in which squares are reached, of the reference. -/
open Go.Proofs
namespace Go.PI
open IM
set_option maxRecDepth 10000
set_option maxHeartbeats 4000000
variable (S : FuncId → Option (List AV → Heap → Option (AV × Heap)))
theorem Gr.cast {α : Type} {f : α → PV} {e : TypeId} {v : PV} {σ : List StB} {Xs Ys : List α} (h : Gr f e v σ Xs) (k : Ys = Xs) : Gr f e v σ Ys := k ▸ h
theorem bfs_PL {n s : Nat} {f f' g g' : Nat → Nat} (pf : IsP n f f') (pg : IsP n g g') (h0 : 0 < n) (hs : s < n) (hc : Conn n f g) : NL (bfs f g s n) = PL n (es f g n s) := by
  refine PL_ext (by rw [NL_len]; exact (bfs_full pf pg h0 hs hc).1) fun k hk => NL_get (es_get pf pg h0 hs hc hk)
end Go.PI
/- RENUMBERED squares; which of two comes first: of the reference. -/
open Go.Proofs
namespace Go.PI
open IM
set_option maxRecDepth 10000
set_option maxHeartbeats 4000000
variable (S : FuncId → Option (List AV → Heap → Option (AV × Heap)))
def Oren : Opn := ⟨fun t => Nat.beq t 24, fun t => Nat.beq t 24 || Nat.beq t 22, true⟩
theorem fn60 : ctx.fn 60 = some c60 := by kernel_rfl
def RnT (n : Nat) (e' f : Nat → Nat) (i : Nat) (ys : List Int) : Prop := ys.length = n ∧ ∀ j : Nat, j < i → ys[e' j]? = some (e' (f j) : Int)
theorem rnT_next {n : Nat} {e e' f : Nat → Nat} {i : Nat} {ys : List Int} (h : IsP n e e') (hi : i < n) (hy : RnT n e' f i ys) : RnT n e' f (i + 1) (ys.set (e' i) (e' (f i) : Int)) := by
  have hl := h.glt i hi
  refine ⟨by rw [List.length_set]; exact hy.1, fun j hj => ?_⟩
  by_cases hji : j = i
  · subst hji
    rw [List.getElem?_set_self (by have := hy.1; omega)]
  · rw [List.getElem?_set_ne (fun e2 => hji (h.inv.inj (by omega) (by omega) e2.symm))]
    exact hy.2 j (by omega)
theorem rnT_done {n : Nat} {e e' f : Nat → Nat} {ys : List Int} (h : IsP n e e') (hy : RnT n e' f n ys) : ys = PL n (rn e e' f) := by
  refine PL_ext hy.1 fun k hk => ?_
  have := hy.2 (e k) (h.lt k hk)
  rw [h.gf k hk] at this
  exact this
theorem renumber_ct (hS : OldO S) {r u : List Int} {n : Nat} {f f' g g' e e' : Nat → Nat} (ho : IsO r u n f f' g g') (he : IsP n e e') :
    Ct (ctx.plus S) 60 [pO r u, pIs (PL n e')] 200 fun w => w = pO (PL n (rn e e' f)) (PL n (rn e e' g)) := by
  have hn := ho.le
  have hrl := ho.l1.1
  have hul := ho.l1.2
  subst hrl
  have hel : (PL r.length e').length = r.length := PL_len
  have gr : ∀ i, i < r.length → r[i]? = some (f i : Int) := fun i hi => by
    have := ho.hr
    rw [show r[i]? = (PL r.length f)[i]? from congrArg (fun l : List Int => l[i]?) this, PL_get hi]
  have gu : ∀ i, i < r.length → u[i]? = some (g i : Int) := fun i hi => by rw [ho.hu, PL_get hi]
  have ge : ∀ i, i < r.length → (PL r.length e')[i]? = some (e' i : Int) := fun i hi => PL_get hi
  refine ctO_of Oren (hS 60 (by decide)) fn60 ?_
  refine ⟨by omega, ?_⟩
  refine ⟨by omega, ?_⟩
  refine ⟨by kernel_rfl, ?_⟩
  refine ⟨_, load_liv rfl rfl rfl, rfl, ?_⟩
  refine callq rfl (size_ct S hS (r := r) (u := u)) (by omega) ?_
  rintro _ rfl
  refine ⟨by omega, ⟨by omega, by omega, by omega⟩, _, int_zero, ?_⟩
  refine ⟨_, load_liv rfl rfl rfl, rfl, ?_⟩
  refine callq rfl (size_ct S hS (r := r) (u := u)) (by omega) ?_
  rintro _ rfl
  refine ⟨by omega, ⟨by omega, by omega, by omega⟩, _, int_zero, ?_⟩
  refine ⟨_, rfl, ?_⟩
  refine ⟨by omega, ?_⟩
  refine ⟨_, _, rfl, ⟨rfl, by decide, rfl⟩, _, rfl, _, rfl, ?_⟩
  refine ⟨fun q st => ∃ (i b : Nat) (ys zs : List Int) (T : List PV), st = ⟨T, [.liv 24 [pIs r, pIs u], .liv 24 [.nils, .nils], .live 3 (ys.map pn), .live 3 (zs.map pn), .liv 24 [.own 2 0 r.length r.length 1, .own 3 0 r.length r.length 1]], b⟩ ∧ Gt T 51 [(1, pIs (PL r.length e')), (2, .optr 0 0), (4, .optr 1 0), (5, .optr 4 0), (6, pn i)] ∧ q = r.length - i ∧ i ≤ r.length ∧ b ≤ 10 + i ∧ Hid (RnT r.length e' f i ys ∧ RnT r.length e' g i zs), ⟨_, ci ⟨0, _, _, _, _, rfl, ⟨rfl, rfl, rfl, rfl, rfl, rfl, trivial⟩, rfl, Nat.zero_le _, by omega, ⟨⟨by simp, fun j hj => by omega⟩, ⟨by simp, fun j hj => by omega⟩⟩⟩⟩, ?_⟩
  rintro _ st ⟨i, b, ys, zs, T, rfl, hT, rfl, hi, hb, hh⟩
  obtain ⟨J, rfl⟩ := gt_open hT
  clear hT
  obtain ⟨⟨y1, y2⟩, ⟨z1, z2⟩⟩ := hh.h
  refine ⟨_, load_liv rfl rfl rfl, ?_⟩
  refine callq rfl (size_ct S hS (r := r) (u := u)) (by omega) ?_
  rintro _ rfl
  refine ⟨fun hlt => ?_, fun hge => ?_⟩
  · have hin : i < r.length := by omega
    have c1 := ho.pr.lt i hin
    have c2 := ho.pu.lt i hin
    have c3 := he.glt i hin
    refine ⟨by kernel_rfl, ?_⟩
    refine ⟨_, load_liv rfl rfl rfl, rfl, ?_⟩
    refine ⟨⟨⟨by omega, by omega⟩, len_map_le (by omega)⟩, ?_⟩
    refine ⟨_, ld (at_map (ge i hin)) (by show _ * 1 = i; omega), rfl, ?_⟩
    refine ⟨_, load_liv rfl rfl rfl, rfl, ?_⟩
    refine ⟨⟨⟨by omega, by omega⟩, len_map_le (by omega)⟩, ?_⟩
    refine ⟨_, ld (at_map (gr i hin)) (by show _ * 1 = i; omega), rfl, ?_⟩
    refine ⟨⟨⟨by omega, by omega⟩, len_map_le (by omega)⟩, ?_⟩
    refine ⟨_, ld (at_map (ge (f i) c1)) (by show _ * 1 = f i; omega), rfl, ?_⟩
    refine ⟨⟨by omega, by omega⟩, ?_⟩
    refine ⟨_, _, rfl, ⟨rfl, by rw [List.length_map]; show 0 + e' i * 1 + 1 ≤ _; omega, rfl⟩, _, int_put (j := e' i) (by show 0 + e' i * 1 = e' i; omega) (by omega), _, rfl, ?_⟩
    refine ⟨by kernel_rfl, ?_⟩
    refine ⟨_, load_liv rfl rfl rfl, rfl, ?_⟩
    refine ⟨⟨⟨by omega, by omega⟩, len_map_le (by omega)⟩, ?_⟩
    refine ⟨_, ld (at_map (ge i hin)) (by show _ * 1 = i; omega), rfl, ?_⟩
    refine ⟨_, load_liv rfl rfl rfl, rfl, ?_⟩
    refine ⟨⟨⟨by omega, by omega⟩, len_map_le (by omega)⟩, ?_⟩
    refine ⟨_, ld (at_map (gu i hin)) (by show _ * 1 = i; omega), rfl, ?_⟩
    refine ⟨⟨⟨by omega, by omega⟩, len_map_le (by omega)⟩, ?_⟩
    refine ⟨_, ld (at_map (ge (g i) c2)) (by show _ * 1 = g i; omega), rfl, ?_⟩
    refine ⟨⟨by omega, by omega⟩, ?_⟩
    refine ⟨_, _, rfl, ⟨rfl, by rw [List.length_map]; show 0 + e' i * 1 + 1 ≤ _; omega, rfl⟩, _, int_put (j := e' i) (by show 0 + e' i * 1 = e' i; omega) (by omega), _, rfl, ?_⟩
    refine ⟨⟨by omega, by omega⟩, ?_⟩
    exact ⟨_, by omega, ci ⟨i + 1, _, _, _, _, rfl, ⟨rfl, rfl, rfl, rfl, rfl, rfl, trivial⟩, rfl, by omega, by omega, ⟨rnT_next he hin hh.h.1, rnT_next he hin hh.h.2⟩⟩⟩
  · have hin : i = r.length := by omega
    rw [hin] at hh
    have ey := rnT_done he hh.h.1
    have ez := rnT_done he hh.h.2
    refine ⟨_, load_liv rfl rfl rfl, ?_⟩
    refine ⟨_, _, rfl, ⟨rfl, by decide, rfl⟩, _, rfl, _, rfl, ?_⟩
    refine ⟨_, load_liv rfl rfl rfl, ?_⟩
    have h1 := fz_ints (i := 2) (n := r.length) (σ := [.liv 24 [pIs r, pIs u], .liv 24 [.own 2 0 r.length r.length 1, .own 3 0 r.length r.length 1], .live 3 (ys.map pn), .live 3 (zs.map pn), .liv 24 [.own 2 0 r.length r.length 1, .own 3 0 r.length r.length 1]]) (xs := ys) rfl y1
    have h2 := fz_ints (i := 3) (n := r.length) (σ := [.liv 24 [pIs r, pIs u], .liv 24 [.own 2 0 r.length r.length 1, .own 3 0 r.length r.length 1], .frz 3 (ys.map pn), .live 3 (zs.map pn), .liv 24 [.own 2 0 r.length r.length 1, .own 3 0 r.length r.length 1]]) (xs := zs) rfl z1
    have h3 : Fz (.agg [.own 2 0 r.length r.length 1, .own 3 0 r.length r.length 1]) _ (.agg [pIs ys, pIs zs]) _ := fun K hK => h1 _ (h2 _ hK)
    exact endf h3 (by rw [ey, ez]; rfl)
theorem fn103 : ctx.fn 103 = some c103 := by kernel_rfl
end Go.PI
/- WHICH OF TWO LISTS comes first. -/
open Go.Proofs
namespace Go.PI
open IM
set_option maxRecDepth 10000
set_option maxHeartbeats 4000000
variable (S : FuncId → Option (List AV → Heap → Option (AV × Heap)))
theorem callqu {dr : Bool} {C : Ctx} {c k d : Nat} {σ : List StB} {g : FuncId} {K : PV → List StB → Nat → Prop} {ps : List PV} {Q : TypeId → Nat → Nat → List PV → Prop} (hc : cloAs ps = true) (h : Cfu C g ps d Q) (hk : k + d ≤ c) (hK : ∀ ty n e cs, Q ty n e cs → K (.ownu σ.length n e) (σ ++ [.live ty cs]) (k + d)) : ArgK dr C c k σ g ps K := ⟨.inl (frzAsK_clo hc ⟨⟨d, hk, .inr (.inr ⟨Q, h, hK⟩)⟩⟩)⟩
theorem ones_pn {xs : List Int} : pones (xs.map pn) = true := by
  induction xs with
  | nil => rfl
  | cons x xs ih =>
    show ((pn x).one && pones (xs.map pn)) = true
    rw [ih]; rfl
theorem copyInts_cu (hS : OldO S) {xs : List Int} (hne : xs ≠ []) (hl : xs.length ≤ 100000) : Cfu (ctx.plus S) 103 [pIs xs] 2 fun ty n e cs => ty = 3 ∧ n = xs.length ∧ e = 1 ∧ cs = xs.map pn := by
  have hpos := List.length_pos_iff.2 hne
  refine cu_of (hS 103 (by decide)) fn103 ?_
  refine ⟨by omega, part0 ⟨_, rfl, ?_⟩⟩
  refine ⟨⟨by rw [List.length_map]; show xs.length = xs.length * 1; omega, ⟨by omega, ones_pn⟩, by omega, fun h => absurd h (by omega), fun h => ⟨by omega, 3, [], _, rfl, by simp, rfl, ?_⟩⟩⟩
  exact ⟨⟨_, _, _, _, _, rfl, push_get, rfl, by omega, rfl, rfl⟩⟩
end Go.PI
/- THE LABEL of the reference. -/
open Go.Proofs
namespace Go.PI
open IM
set_option maxRecDepth 10000
set_option maxHeartbeats 4000000
variable (S : FuncId → Option (List AV → Heap → Option (AV × Heap)))
end Go.PI
/- THE LABEL of the reference: the best of all numberings. -/
open Go.Proofs
namespace Go.PI
open IM
set_option maxRecDepth 10000
set_option maxHeartbeats 4000000
variable (S : FuncId → Option (List AV → Heap → Option (AV × Heap)))
end Go.PI
