/- Own work of the verifier: OgS OgT OgU OgW OgX OgSq OgY OgZ OgAa OgAb OgAc OgAd. -/
import Derived.Test.YtefajaiioljjoaaOyAZ
import Derived.Test.YtefajaiioljjoaaOyAV
set_option linter.all false
set_option exponentiation.threshold 3000
set_option linter.deprecated false
/- NUMBERINGS: the squares around one. -/
open Go.Proofs
namespace Go.PI
open IM
set_option maxRecDepth 10000
set_option maxHeartbeats 4000000
variable (S : FuncId → Option (List AV → Heap → Option (AV × Heap)))
theorem Num.push {σ : List StB} {j m : Nat} {v : PV} {xs : List Nat} {b : StB} (h : Num σ j m v xs) : Num (σ ++ [b]) j m v xs := by
  obtain ⟨es, hes, hg⟩ := h.mp
  obtain ⟨jv, hj, hl⟩ := h.lv
  exact ⟨push_old h.liv, h.gr.push, ⟨es, push_old hes, hg⟩, h.ne, h.jv, h.mv, h.jm, ⟨jv, hj, push_old hl⟩⟩
theorem Num.keep {σ σ' : List StB} {j m : Nat} {v : PV} {xs : List Nat} (h : Num σ j m v xs) (k : ∀ i b, (i = j ∨ i = m ∨ blkOf v = some i) → σ[i]? = some b → σ'[i]? = some b) : Num σ' j m v xs := by
  obtain ⟨es, hes, hg⟩ := h.mp
  exact ⟨k j _ (.inl rfl) h.liv, h.gr.keep fun i b hi hb => k i b (.inr (.inr hi)) hb, ⟨es, k m _ (.inr (.inl rfl)) hes, hg⟩, h.ne, h.jv, h.mv, h.jm, h.lv.imp fun jv hj => ⟨hj.1, k jv _ (.inr (.inr hj.1)) hj.2⟩⟩
theorem Num.jl {σ : List StB} {j m : Nat} {v : PV} {xs : List Nat} (h : Num σ j m v xs) : j < σ.length := (List.getElem?_eq_some_iff.1 h.liv).1
theorem Num.ml {σ : List StB} {j m : Nat} {v : PV} {xs : List Nat} (h : Num σ j m v xs) : m < σ.length := by
  obtain ⟨es, hes, hg⟩ := h.mp
  exact (List.getElem?_eq_some_iff.1 hes).1
theorem NF.push {σ : List StB} {j m : Nat} {v : PV} {b : StB} : NF σ (σ ++ [b]) j m v v := ⟨by simp, fun i b _ _ _ h => push_old h, fun _ _ h => h⟩
theorem addL_idx {xs : List Nat} {x y : Nat} (h : y ∈ xs) : (addL xs x).idxOf y = xs.idxOf y := by
  unfold addL
  by_cases hx : x ∈ xs
  · rw [if_pos hx]
  · rw [if_neg hx, idx_old h]
theorem addL_self {xs : List Nat} {x : Nat} : x ∈ addL xs x := addL_mem.2 (.inr rfl)
theorem addL_len {xs : List Nat} {x : Nat} : (addL xs x).length ≤ xs.length + 1 := by
  unfold addL
  by_cases hx : x ∈ xs
  · rw [if_pos hx]; omega
  · rw [if_neg hx]; simp
theorem load_c {C : Ctx} {σ : List StB} {j o : Nat} {t t' : TypeId} {i : TI} {cs : List PV} {v : PV} (hc : contOf σ j = some (t', cs)) (hi : C.ty t = some i) (hv : partP i cs o = some v) : ploadE C σ t (.optr j o) = some v := by
  unfold ploadE
  rw [hi]
  simp only [hc]
  exact hv
theorem NF.set {σ σ' : List StB} {j m L : Nat} {v v' : PV} {b : StB} (h : NF σ σ' j m v v') (hL : σ.length ≤ L) : NF σ (σ'.set L b) j m v v' :=
  ⟨by rw [List.length_set]; exact h.len, fun i b h1 h2 h3 h4 => by
    have := (List.getElem?_eq_some_iff.1 h4).1
    rw [List.getElem?_set_ne (by omega)]; exact h.keep i b h1 h2 h3 h4, h.blk⟩
theorem Num.set {σ : List StB} {j m L : Nat} {v : PV} {xs : List Nat} {b : StB} (h : Num σ j m v xs) (h1 : L ≠ j) (h2 : L ≠ m) (h3 : blkOf v ≠ some L) : Num (σ.set L b) j m v xs :=
  h.keep fun i b hi hb => by
    rw [List.getElem?_set_ne (fun e => by subst e; rcases hi with h | h | h; exact h1 h; exact h2 h; exact h3 h)]; exact hb
theorem fn109 : ctx.fn 109 = some c109 := by kernel_rfl
theorem around_cm (hS : OldO S) {σ : List StB} {j m : Nat} {v : PV} {xs : List Nat} {r u : List Int} {n i x : Nat} {f f' g g' : Nat → Nat} (ho : IsO r u n f f' g g') (h : Num σ j m v xs) (hl : xs.length ≤ 900) (hi : xs[i]? = some x) (hx : x < n) :
    Cm (ctx.plus S) 109 [.optr j 0, pO r u, pn i] σ 20 fun w σ' => ∃ v', w = .agg [pnn ((addL (addL xs (f x)) (g x)).idxOf (f x)), pnn ((addL (addL xs (f x)) (g x)).idxOf (g x))] ∧ Num σ' j m v' (addL (addL xs (f x)) (g x)) ∧ NF σ σ' j m v v' := by
  refine cm_of Onum (hS 109 (by decide)) fn109 fun c k0 hc => ?_
  have hn := ho.le
  have hil := (List.getElem?_eq_some_iff.1 hi).1
  obtain ⟨jv, ty, hcv, hv⟩ := h.gr.shape h.ne
  have hjv : blkOf v = some jv := by rcases hv with rfl | rfl <;> rfl
  have hjvl := contOf_lt hcv
  have hjl := h.jl
  have hml := h.ml
  refine ⟨by omega, by omega, ?_⟩
  refine ⟨by omega, ?_⟩
  refine ⟨by kernel_rfl, ?_⟩
  refine ⟨_, load_c (contOf_app (contOf_app push_cont)) rfl rfl, rfl, ?_⟩
  have hliv := h.liv
  rcases hv with hv | hv
  all_goals
    rw [hv] at hliv
    refine ⟨_, load_liv (push_old (push_old (push_old hliv))) rfl rfl, ?_⟩
    refine ⟨rfl, ?_⟩
    refine ⟨⟨by omega, by omega⟩, ?_⟩
    refine ⟨_, load_k rfl rfl (contOf_app (contOf_app (contOf_app hcv))) (at_map hi) (by show 0 + _ * 1 = i; omega), rfl, ?_⟩
    refine callq rfl (neighbours_ct S hS ho hx) (by omega) ?_
    rintro _ rfl
    obtain ⟨a, ha⟩ : ∃ a : Nat, (addL (addL xs (f x)) (g x)).idxOf (f x) = a := ⟨_, rfl⟩
    obtain ⟨b, hb⟩ : ∃ b : Nat, (addL (addL xs (f x)) (g x)).idxOf (g x) = b := ⟨_, rfl⟩
    rw [ha, hb]
    have ha1 : (addL xs (f x)).idxOf (f x) = a := by rw [← ha, addL_idx addL_self]
    refine ⟨fun q s => ∃ (k k' L6 L7 : Nat) (v' : PV) (σ' : List StB) (T : List PV), s = ⟨T, σ', k'⟩ ∧ Gt T 30 [(0, .optr j 0), (6, .optr L6 0), (7, .optr L7 0), (18, .agg [pnn (f x), pnn (g x)]), (19, pn k)] ∧ q = 2 - k ∧ k ≤ 2 ∧ k' ≤ k0 + 6 + 5 * k ∧ Hid (σ.length ≤ L6 ∧ L6 < L7 ∧ L7 < σ'.length ∧ blkOf v' ≠ some L6 ∧ blkOf v' ≠ some L7 ∧ NF σ σ' j m v v' ∧ σ'[L6]? = some (.live 107 [pn 0, pn 0]) ∧
      ((k = 0 ∧ Num σ' j m v' xs ∧ σ'[L7]? = some (.live 107 [pn 0, pn 0])) ∨ (k = 1 ∧ Num σ' j m v' (addL xs (f x)) ∧ σ'[L7]? = some (.live 107 [pnn a, pn 0])) ∨ (k = 2 ∧ Num σ' j m v' (addL (addL xs (f x)) (g x)) ∧ σ'[L7]? = some (.live 107 [pnn a, pnn b])))), ⟨_, ci ⟨0, _, _, _, v, _, _, rfl, ⟨rfl, rfl, rfl, rfl, rfl, rfl, trivial⟩, rfl, Nat.zero_le _, by omega, ⟨?_, ?_, ?_, ?_, ?_, ?_, ?_, .inl ⟨rfl, h.push.push.push, push_get⟩⟩⟩⟩, ?_⟩
    · simp
    · simp
    · simp
    · rw [hjv]; simp; omega
    · rw [hjv]; simp; omega
    · exact NF.push.trans (NF.push.trans NF.push)
    · exact push_old push_get
    rintro _ s ⟨k, k', L6, L7, v', σ', T, rfl, hT, rfl, hk, hk', hh⟩
    obtain ⟨J, rfl⟩ := gt_open hT
    clear hT
    obtain ⟨c1, c2, c3, c4, c5, c6, c7, c8⟩ := hh.h
    clear hh
    refine ⟨fun hlt => ?_, fun hge => ?_⟩
    · rcases c8 with ⟨rfl, d1, d2⟩ | ⟨rfl, d1, d2⟩ | ⟨rfl, d1, d2⟩
      · refine ⟨⟨by omega, by omega⟩, _, rfl, ?_⟩
        refine callm (number_cm S hS (x := f x) d1 (by omega)) (by omega) ?_
        rintro _ σ2 ⟨v2, rfl, e1, e2⟩
        rw [ha1]
        have g6 := e2.keep L6 _ (by omega) (by omega) c4 c7
        have g7 := e2.keep L7 _ (by omega) (by omega) c5 d2
        have b7 := (List.getElem?_eq_some_iff.1 g7).1
        refine ⟨⟨by omega, by omega⟩, ?_⟩
        refine ⟨_, _, g7, ⟨rfl, Nat.le_of_ble_eq_true rfl, rfl⟩, _, rfl, _, rfl, ?_⟩
        refine ⟨⟨by omega, by omega⟩, ?_⟩
        exact ⟨_, by omega, ci ⟨1, _, L6, L7, v2, _, _, rfl, ⟨rfl, rfl, rfl, rfl, rfl, rfl, trivial⟩, rfl, by omega, by omega, ⟨c1, c2, by rw [List.length_set]; omega, e2.blk L6 (by omega) c4, e2.blk L7 (by omega) c5, (c6.trans e2).set (by omega), by rw [List.getElem?_set_ne (by omega)]; exact g6, .inr (.inl ⟨rfl, e1.set (by omega) (by omega) (e2.blk L7 (by omega) c5), List.getElem?_set_self (by omega)⟩)⟩⟩⟩
      · refine ⟨⟨by omega, by omega⟩, _, rfl, ?_⟩
        have l2 : (addL xs (f x)).length ≤ xs.length + 1 := addL_len
        refine callm (number_cm S hS (x := g x) d1 (by omega)) (by omega) ?_
        rintro _ σ2 ⟨v2, rfl, e1, e2⟩
        rw [hb]
        have g6 := e2.keep L6 _ (by omega) (by omega) c4 c7
        have g7 := e2.keep L7 _ (by omega) (by omega) c5 d2
        have b7 := (List.getElem?_eq_some_iff.1 g7).1
        refine ⟨⟨by omega, by omega⟩, ?_⟩
        refine ⟨_, _, g7, ⟨rfl, Nat.le_of_ble_eq_true rfl, rfl⟩, _, rfl, _, rfl, ?_⟩
        refine ⟨⟨by omega, by omega⟩, ?_⟩
        exact ⟨_, by omega, ci ⟨2, _, L6, L7, v2, _, _, rfl, ⟨rfl, rfl, rfl, rfl, rfl, rfl, trivial⟩, rfl, by omega, by omega, ⟨c1, c2, by rw [List.length_set]; omega, e2.blk L6 (by omega) c4, e2.blk L7 (by omega) c5, (c6.trans e2).set (by omega), by rw [List.getElem?_set_ne (by omega)]; exact g6, .inr (.inr ⟨rfl, e1.set (by omega) (by omega) (e2.blk L7 (by omega) c5), List.getElem?_set_self (by omega)⟩)⟩⟩⟩
      · exact absurd hlt (by omega)
    · rcases c8 with ⟨rfl, d1, d2⟩ | ⟨rfl, d1, d2⟩ | ⟨rfl, d1, d2⟩
      · exact absurd hge (by omega)
      · exact absurd hge (by omega)
      · refine ⟨_, load_c (contOf_live d2) rfl rfl, ?_⟩
        refine ⟨_, _, c7, ⟨rfl, Nat.le_of_ble_eq_true rfl, rfl⟩, _, rfl, _, rfl, ?_⟩
        refine ⟨_, load_c (contOf_live (List.getElem?_set_self (by omega))) rfl rfl, ?_⟩
        exact endm [] (by dsimp only; omega) ⟨v', rfl, d1.set (by omega) (by omega) c4, c6.set c1⟩
end Go.PI
/- THE SQUARES THAT ARE REACHED. -/
open Go.Proofs
namespace Go.PI
open IM
set_option maxRecDepth 10000
set_option maxHeartbeats 4000000
variable (S : FuncId → Option (List AV → Heap → Option (AV × Heap)))
def NL (l : List Nat) : List Int := l.map fun (x : Nat) => (x : Int)
theorem NL_len {l : List Nat} : (NL l).length = l.length := by unfold NL; rw [List.length_map]
theorem pIs_NL {l : List Nat} : PV.lst l.length (l.map pnn) = pIs (NL l) := by
  unfold pIs
  rw [NL_len]
  unfold NL
  rw [List.map_map]
  rfl
theorem NL_get {l : List Nat} {i x : Nat} (h : l[i]? = some x) : (NL l)[i]? = some (x : Int) := by unfold NL; rw [List.getElem?_map, h]; rfl
theorem fn104 : ctx.fn 104 = some c104 := by kernel_rfl
end Go.PI
/- WHETHER AN ORIGAMI IS CONNECTED, of the program. -/
open Go.Proofs
namespace Go.PI
open IM
set_option maxRecDepth 10000
set_option maxHeartbeats 4000000
variable (S : FuncId → Option (List AV → Heap → Option (AV × Heap)))
open Classical in
noncomputable def cc (n : Nat) (f g : Nat → Nat) : Int := if Conn n f g then 0 else 16
end Go.PI
/- COMPONENTS of the reference. -/
open Go.Proofs
namespace Go.PI
open IM
set_option maxRecDepth 10000
set_option maxHeartbeats 4000000
variable (S : FuncId → Option (List AV → Heap → Option (AV × Heap)))
structure FlI (n : Nat) (f g : Nat → Nat) (s i j : Nat) (fl : List Bool) : Prop where
  len : fl.length = n
  snd : ∀ y, fl[y]? = some true → Rch f g s y
  rnd : ∀ y, y < n → RchK f g s i y → fl[y]? = some true
  nxt : ∀ z, z < j → RchK f g s i z → fl[f z]? = some true ∧ fl[g z]? = some true
theorem set_true {fl : List Bool} {q y : Nat} (h : fl[y]? = some true) : (fl.set q true)[y]? = some true := by
  by_cases e : q = y
  · subst e; rw [List.getElem?_set_self (List.getElem?_eq_some_iff.1 h).1]
  · rw [List.getElem?_set_ne e]; exact h
theorem set_true_inv {fl : List Bool} {q y : Nat} (h : (fl.set q true)[y]? = some true) : y = q ∨ fl[y]? = some true := by
  by_cases e : q = y
  · exact .inl e.symm
  · rw [List.getElem?_set_ne e] at h; exact .inr h
section
variable {n s i j : Nat} {f f' g g' : Nat → Nat} {fl : List Bool}
theorem fl_mark (h : FlI n f g s i j fl) (hj : fl[j]? = some true) (hf : f j < n) (hg : g j < n) : FlI n f g s i (j + 1) ((fl.set (f j) true).set (g j) true) := by
  have hr := h.snd j hj
  have hl := h.len
  refine ⟨by simp [hl], fun y hy => ?_, fun y hy hk => set_true (set_true (h.rnd y hy hk)), fun z hz hk => ?_⟩
  · rcases set_true_inv hy with rfl | hy
    · exact .g hr
    · rcases set_true_inv hy with rfl | hy
      · exact .f hr
      · exact h.snd y hy
  · by_cases e : z = j
    · subst e
      exact ⟨set_true (by rw [List.getElem?_set_self (by omega)]), by rw [List.getElem?_set_self (by rw [List.length_set]; omega)]⟩
    · have := h.nxt z (by omega) hk
      exact ⟨set_true (set_true this.1), set_true (set_true this.2)⟩
theorem fl_skip (h : FlI n f g s i j fl) (hj : fl[j]? = some false) : FlI n f g s i (j + 1) fl := by
  refine ⟨h.len, h.snd, h.rnd, fun z hz hk => ?_⟩
  by_cases e : z = j
  · subst e
    have := h.rnd z (by have := (List.getElem?_eq_some_iff.1 hj).1; have := h.len; omega) hk
    rw [hj] at this; cases this
  · exact h.nxt z (by omega) hk
theorem fl_next (pf : IsP n f f') (pg : IsP n g g') (hs : s < n) (h : FlI n f g s i n fl) : FlI n f g s (i + 1) 0 fl := by
  refine ⟨h.len, h.snd, fun y hy hk => ?_, fun z hz => by omega⟩
  rcases hk with hk | ⟨z, hk, rfl | rfl⟩
  · exact h.rnd y hy hk
  · exact (h.nxt z (rch_lt pf pg hs (rchK_rch hk)) hk).1
  · exact (h.nxt z (rch_lt pf pg hs (rchK_rch hk)) hk).2
theorem fl_zero (hs : s < n) : FlI n f g s 0 0 ((List.replicate n false).set s true) := by
  refine ⟨by simp, fun y hy => ?_, fun y hy hk => ?_, fun z hz => by omega⟩
  · rcases set_true_inv hy with rfl | hy
    · exact .refl
    · rw [List.getElem?_replicate] at hy
      split at hy <;> simp at hy
  · rw [show y = s from hk, List.getElem?_set_self (by simpa using hs)]
theorem fl_done (pf : IsP n f f') (pg : IsP n g g') (hs : s < n) (h : FlI n f g s n j fl) (y : Nat) : fl[y]? = some true ↔ Rch f g s y := by
  refine ⟨h.snd y, fun hr => ?_⟩
  have hm := bfs_all (bfs_len pf pg hs n) hr
  obtain ⟨p, hp⟩ := List.getElem?_of_mem hm
  have hd := bfs_dist n p y hp
  have hpl := (List.getElem?_eq_some_iff.1 hp).1
  have hbl := bfs_len pf pg hs n
  have := rchK_mono (n - p) hd
  rw [show p + (n - p) = n by omega] at this
  exact h.rnd y (rch_lt pf pg hs hr) this
end
open Classical in
noncomputable def compTo (f g : Nat → Nat) (s k : Nat) : List Nat := (List.range k).filter fun y => decide (Rch f g s y)
theorem compTo_yes {f g : Nat → Nat} {s k : Nat} (h : Rch f g s k) : compTo f g s (k + 1) = compTo f g s k ++ [k] := by
  unfold compTo
  rw [List.range_succ, List.filter_append, List.filter_cons_of_pos (by simpa using h)]
  rfl
theorem compTo_no {f g : Nat → Nat} {s k : Nat} (h : ¬ Rch f g s k) : compTo f g s (k + 1) = compTo f g s k := by
  unfold compTo
  rw [List.range_succ, List.filter_append, List.filter_cons_of_neg (by simpa using h)]
  simp
theorem compTo_len {f g : Nat → Nat} {s k : Nat} : (compTo f g s k).length ≤ k := by
  have := List.length_filter_le (fun y => @decide (Rch f g s y) (Classical.propDecidable _)) (List.range k)
  rw [List.length_range] at this
  exact this
theorem fn68 : ctx.fn 68 = some c68 := by kernel_rfl
theorem component_ct (hS : OldO S) {r u : List Int} {n s : Nat} {f f' g g' : Nat → Nat} (ho : IsO r u n f f' g g') (hs : s < n) :
    Ct (ctx.plus S) 68 [pO r u, pn s] 5000 fun w => w = pIs (NL (compTo f g s n)) := by
  have hn := ho.le
  have hrl := ho.l1.1
  subst hrl
  have gr : ∀ i, i < r.length → r[i]? = some (f i : Int) := fun i hi => by rw [ho.hr, PL_get hi]
  have gu : ∀ i, i < r.length → u[i]? = some (g i : Int) := fun i hi => by rw [ho.hu, PL_get hi]
  have hul := ho.l1.2
  refine ct_of (hS 68 (by decide)) fn68 ?_
  refine ⟨by omega, ?_⟩
  refine ⟨_, rfl, ?_⟩
  refine callq rfl (size_ct S hS) (by omega) ?_
  rintro _ rfl
  refine ⟨by omega, ⟨by omega, by omega, by omega⟩, _, flg_zero, ?_⟩
  refine ⟨⟨by omega, by omega⟩, ?_⟩
  refine ⟨_, _, rfl, ⟨rfl, by rw [List.length_map, List.length_replicate]; show 0 + s * 1 + 1 ≤ _; omega, rfl⟩, _, flg_put (by show 0 + s * 1 = s; omega) (by rw [List.length_replicate]; omega), _, rfl, ?_⟩
  refine ⟨fun m st => ∃ (i b : Nat) (fl : List Bool) (T : List PV), st = ⟨T, [.live 24 [pIs r, pIs u], .live 4 (fl.map PV.bool)], b⟩ ∧ Gt T 61 [(2, .optr 0 0), (5, .own 1 0 r.length r.length 1), (6, pn i)] ∧ m = r.length - i ∧ i ≤ r.length ∧ b ≤ 4 + 62 * i ∧ Hid (FlI r.length f g s i 0 fl), ⟨_, ci ⟨0, _, _, _, rfl, ⟨rfl, rfl, rfl, rfl, trivial⟩, rfl, Nat.zero_le _, by omega, ⟨fl_zero hs⟩⟩⟩, ?_⟩
  rintro _ st ⟨i, b, fl, T, rfl, hT, rfl, hi, hb, hh⟩
  obtain ⟨J, rfl⟩ := gt_open hT
  clear hT
  refine ⟨_, rfl, ?_⟩
  refine callq rfl (size_ct S hS) (by omega) ?_
  rintro _ rfl
  refine ⟨fun hlt => ?_, fun hge => ?_⟩
  · refine ⟨fun m st => ∃ (j b' : Nat) (fl : List Bool) (T : List PV), st = ⟨T, [.live 24 [pIs r, pIs u], .live 4 (fl.map PV.bool)], b'⟩ ∧ Gt T 61 [(2, .optr 0 0), (5, .own 1 0 r.length r.length 1), (6, pn i), (7, pn j)] ∧ m = r.length - j ∧ j ≤ r.length ∧ b' ≤ 5 + 62 * i + j ∧ Hid (FlI r.length f g s i j fl), ⟨_, ci ⟨0, _, _, _, rfl, ⟨rfl, rfl, rfl, rfl, rfl, trivial⟩, rfl, Nat.zero_le _, by omega, hh⟩⟩, ?_⟩
    clear hh fl
    rintro _ st ⟨j, b', fl, T, rfl, hT, rfl, hj, hb', hh⟩
    obtain ⟨J, rfl⟩ := gt_open hT
    clear hT
    have hfl := hh.h.len
    refine ⟨_, rfl, ?_⟩
    refine callq rfl (size_ct S hS) (by omega) ?_
    rintro _ rfl
    refine ⟨fun hlt2 => ?_, fun hge2 => ?_⟩
    · have hjn : j < r.length := by omega
      have c1 := ho.pr.lt j hjn
      have c2 := ho.pu.lt j hjn
      obtain ⟨q, hq⟩ : ∃ q, fl[j]? = some q := ⟨fl[j]'(by omega), List.getElem?_eq_getElem _⟩
      refine ⟨⟨by omega, by omega⟩, ?_⟩
      refine ⟨_, load_k rfl rfl rfl (at_map hq) (by show 0 + _ * 1 = j; omega), ?_⟩
      cases q with
      | true =>
        refine ⟨by kernel_rfl, ?_⟩
        refine ⟨_, rfl, rfl, ?_⟩
        refine ⟨⟨⟨by omega, by omega⟩, len_map_le (by omega)⟩, ?_⟩
        refine ⟨_, ld (at_map (gr j hjn)) (by show _ * 1 = j; omega), rfl, ?_⟩
        refine ⟨_, rfl, rfl, ?_⟩
        refine ⟨⟨⟨by omega, by omega⟩, len_map_le (by omega)⟩, ?_⟩
        refine ⟨_, ld (at_map (gu j hjn)) (by show _ * 1 = j; omega), rfl, ?_⟩
        refine ⟨⟨by omega, by omega⟩, ?_⟩
        refine ⟨_, _, rfl, ⟨rfl, by rw [List.length_map]; show 0 + f j * 1 + 1 ≤ _; omega, rfl⟩, _, flg_put (by show 0 + f j * 1 = f j; omega) (by omega), _, rfl, ?_⟩
        refine ⟨⟨by omega, by omega⟩, ?_⟩
        refine ⟨_, _, rfl, ⟨rfl, by rw [List.length_map, List.length_set]; show 0 + g j * 1 + 1 ≤ _; omega, rfl⟩, _, flg_put (by show 0 + g j * 1 = g j; omega) (by rw [List.length_set]; omega), _, rfl, ?_⟩
        refine ⟨⟨by omega, by omega⟩, ?_⟩
        exact ⟨_, by omega, ci ⟨j + 1, _, _, _, rfl, ⟨rfl, rfl, rfl, rfl, rfl, trivial⟩, rfl, by omega, by omega, ⟨fl_mark hh.h hq c1 c2⟩⟩⟩
      | false =>
        refine ⟨⟨by omega, by omega⟩, ?_⟩
        exact ⟨_, by omega, ci ⟨j + 1, _, fl, _, rfl, ⟨rfl, rfl, rfl, rfl, rfl, trivial⟩, rfl, by omega, by omega, ⟨fl_skip hh.h hq⟩⟩⟩
    · have hjn : j = r.length := by omega
      subst hjn
      refine ⟨⟨by omega, by omega⟩, ?_⟩
      exact ⟨_, by omega, ci ⟨i + 1, _, fl, _, rfl, ⟨rfl, rfl, rfl, rfl, trivial⟩, rfl, by omega, by omega, ⟨fl_next ho.pr ho.pu hs hh.h⟩⟩⟩
  · have hin : i = r.length := by omega
    subst hin
    have hdone := fl_done ho.pr ho.pu hs hh.h
    have hfl := hh.h.len
    refine ⟨fun m st => ∃ (k b' : Nat) (v : PV) (σ : List StB) (T : List PV), st = ⟨T, σ, b'⟩ ∧ Gt T 61 [(2, .optr 0 0), (5, .own 1 0 r.length r.length 1), (8, v), (9, pn k)] ∧ m = r.length - k ∧ k ≤ r.length ∧ b' ≤ 70 + 62 * r.length + 3 * k ∧ Hid (σ[0]? = some (.live 24 [pIs r, pIs u]) ∧ σ[1]? = some (.live 4 (fl.map PV.bool)) ∧ blkOf v ≠ some 0 ∧ blkOf v ≠ some 1 ∧ Gr pnn 3 v σ (compTo f g s k)), ⟨_, ci ⟨0, _, .nils, _, _, rfl, ⟨rfl, rfl, rfl, rfl, rfl, trivial⟩, rfl, Nat.zero_le _, by omega, ⟨rfl, rfl, (fun h => by cases h), (fun h => by cases h), .nil⟩⟩⟩, ?_⟩
    rintro _ st ⟨k, b', v, σ, T, rfl, hT, rfl, hk, hb', hh2⟩
    obtain ⟨J, rfl⟩ := gt_open hT
    clear hT
    obtain ⟨d1, d2, d3, d4, d5⟩ := hh2.h
    refine ⟨_, load_c (contOf_live d1) rfl rfl, ?_⟩
    refine callq rfl (size_ct S hS (r := r) (u := u)) (by omega) ?_
    rintro _ rfl
    refine ⟨fun hlt2 => ?_, fun hge2 => ?_⟩
    · have hki : k < r.length := by omega
      obtain ⟨q, hq⟩ : ∃ q, fl[k]? = some q := ⟨fl[k]'(by omega), List.getElem?_eq_getElem _⟩
      refine ⟨⟨by omega, by omega⟩, ?_⟩
      refine ⟨_, load_k rfl rfl (contOf_live d2) (at_map hq) (by show 0 + _ * 1 = k; omega), ?_⟩
      cases q with
      | true =>
        have hr := (hdone k).1 hq
        refine ⟨by omega, part1 fzI ⟨[pnn k], rfl, ?_⟩⟩
        have hcl : (compTo f g s k).length ≤ k := compTo_len
        have l0 := (List.getElem?_eq_some_iff.1 d1).1
        have l1 := (List.getElem?_eq_some_iff.1 d2).1
        refine appG (f := pnn) (e := 3) (y := k) d5.push push_cont rfl rfl rfl rfl (by kernel_rfl) rfl rfl (by omega) (by omega) fun v' σ' hv' hkp hbv => ?_
        have hne : ∀ q, q < σ.length → blkOf v' ≠ some q := fun q hq e => by
          rw [hbv] at e; have := Option.some.inj e; rw [List.length_append, List.length_singleton] at this; omega
        refine ⟨⟨by omega, by omega⟩, ?_⟩
        exact ⟨_, by omega, ci ⟨k + 1, _, v', σ', _, rfl, ⟨rfl, rfl, rfl, rfl, rfl, trivial⟩, rfl, by omega, by omega, ⟨hkp 0 _ d3 (push_old d1), hkp 1 _ d4 (push_old d2), hne 0 l0, hne 1 l1, by rw [compTo_yes hr]; exact hv'⟩⟩⟩
      | false =>
        have hr : ¬ Rch f g s k := fun h => by have := (hdone k).2 h; rw [hq] at this; cases this
        refine ⟨⟨by omega, by omega⟩, ?_⟩
        exact ⟨_, by omega, ci ⟨k + 1, _, v, σ, _, rfl, ⟨rfl, rfl, rfl, rfl, rfl, trivial⟩, rfl, by omega, by omega, ⟨d1, d2, d3, d4, by rw [compTo_no hr]; exact d5⟩⟩⟩
    · have hki : k = r.length := by omega
      obtain ⟨σ', hf⟩ := d5.fz
      exact endf hf (by rw [hki]; exact pIs_NL)
end Go.PI
/- COMPONENTS of the reference, all of them; whether an origami is one that is connected. -/
open Go.Proofs
namespace Go.PI
open IM
set_option maxRecDepth 10000
set_option maxHeartbeats 4000000
variable (S : FuncId → Option (List AV → Heap → Option (AV × Heap)))
def Low (f g : Nat → Nat) (s : Nat) : Prop := ∀ y, y < s → ¬ Rch f g s y
theorem mem_compTo {f g : Nat → Nat} {s n y : Nat} : y ∈ compTo f g s n ↔ y < n ∧ Rch f g s y := by
  unfold compTo
  rw [List.mem_filter, List.mem_range]
  simp
theorem comp_head {f g : Nat → Nat} {s n : Nat} (hs : s < n) : ∃ h, (compTo f g s n)[0]? = some h ∧ Rch f g s h ∧ h ≤ s ∧ ∀ y, y < n → Rch f g s y → h ≤ y := by
  have hm : s ∈ compTo f g s n := mem_compTo.2 ⟨hs, .refl⟩
  have hp : (compTo f g s n).Pairwise (· < ·) := List.Pairwise.filter _ List.pairwise_lt_range
  have hmem := fun y => mem_compTo (f := f) (g := g) (s := s) (n := n) (y := y)
  cases hc : compTo f g s n with
  | nil => rw [hc] at hm; simp at hm
  | cons h t =>
    rw [hc] at hp hm hmem
    have hall : ∀ y, y < n → Rch f g s y → h ≤ y := fun y hy hr => by
      rcases List.mem_cons.1 ((hmem y).2 ⟨hy, hr⟩) with e | e
      · omega
      · have := List.rel_of_pairwise_cons hp e; omega
    exact ⟨h, rfl, ((hmem h).1 (by simp)).2, hall s hs .refl, hall⟩
theorem head_low {f g : Nat → Nat} {s n h : Nat} (hs : s < n) (hr : Rch f g s h) (hle : h ≤ s) (ha : ∀ y, y < n → Rch f g s y → h ≤ y) : h = s ↔ Low f g s := by
  constructor
  · rintro rfl y hy hc
    have := ha y (by omega) hc
    omega
  · intro hl
    refine Classical.byContradiction fun hne => hl h (by omega) hr
open Classical in
noncomputable def lows (f g : Nat → Nat) (k : Nat) : List Nat := (List.range k).filter fun y => decide (Low f g y)
theorem mem_lows {f g : Nat → Nat} {k y : Nat} : y ∈ lows f g k ↔ y < k ∧ Low f g y := by
  unfold lows
  rw [List.mem_filter, List.mem_range]
  simp
theorem lows_yes {f g : Nat → Nat} {k : Nat} (h : Low f g k) : lows f g (k + 1) = lows f g k ++ [k] := by
  unfold lows
  rw [List.range_succ, List.filter_append, List.filter_cons_of_pos (by simpa using h)]
  rfl
theorem lows_no {f g : Nat → Nat} {k : Nat} (h : ¬ Low f g k) : lows f g (k + 1) = lows f g k := by
  unfold lows
  rw [List.range_succ, List.filter_append, List.filter_cons_of_neg (by simpa using h)]
  simp
theorem lows_len {f g : Nat → Nat} {k : Nat} : (lows f g k).length ≤ k := by
  have := List.length_filter_le (fun y => @decide (Low f g y) (Classical.propDecidable _)) (List.range k)
  rw [List.length_range] at this
  exact this
noncomputable def compsTo (f g : Nat → Nat) (n k : Nat) : List (List Int) := (lows f g k).map fun s => NL (compTo f g s n)
theorem compsTo_len {f g : Nat → Nat} {n k : Nat} : (compsTo f g n k).length = (lows f g k).length := by unfold compsTo; rw [List.length_map]
theorem compsTo_yes {f g : Nat → Nat} {n k : Nat} (h : Low f g k) : compsTo f g n (k + 1) = compsTo f g n k ++ [NL (compTo f g k n)] := by
  unfold compsTo
  rw [lows_yes h, List.map_append]
  rfl
theorem compsTo_no {f g : Nat → Nat} {n k : Nat} (h : ¬ Low f g k) : compsTo f g n (k + 1) = compsTo f g n k := by
  unfold compsTo
  rw [lows_no h]
theorem fn20 : ctx.fn 20 = some c20 := by kernel_rfl
theorem rcomponents_ct (hS : OldO S) {r u : List Int} {n : Nat} {f f' g g' : Nat → Nat} (ho : IsO r u n f f' g g') :
    Ct (ctx.plus S) 20 [pO r u] 310000 fun w => w = pM (compsTo f g n n) := by
  have hn := ho.le
  have hrl := ho.l1.1
  refine ct_of (hS 20 (by decide)) fn20 ?_
  refine ⟨by omega, ?_⟩
  refine ⟨fun m st => ∃ (k b : Nat) (v : PV) (σ : List StB) (T : List PV), st = ⟨T, σ, b⟩ ∧ Gt T 25 [(1, .optr 0 0), (3, v), (4, pn k)] ∧ m = n - k ∧ k ≤ n ∧ b ≤ 4 + 5010 * k ∧ Hid (σ[0]? = some (.live 24 [pIs r, pIs u]) ∧ blkOf v ≠ some 0 ∧ Gr pIs 22 v σ (compsTo f g n k)), ⟨_, ci ⟨0, _, .nils, _, _, rfl, ⟨rfl, rfl, rfl, rfl, trivial⟩, rfl, Nat.zero_le _, by omega, ⟨rfl, (fun h => by cases h), .nil⟩⟩⟩, ?_⟩
  rintro _ st ⟨k, b, v, σ, T, rfl, hT, rfl, hk, hb, hh⟩
  obtain ⟨J, rfl⟩ := gt_open hT
  clear hT
  obtain ⟨d1, d3, d5⟩ := hh.h
  have l0 := (List.getElem?_eq_some_iff.1 d1).1
  refine ⟨_, load_c (contOf_live d1) rfl rfl, ?_⟩
  refine callq rfl (size_ct S hS (r := r) (u := u)) (by omega) ?_
  rintro _ rfl
  refine ⟨fun hlt => ?_, fun hge => ?_⟩
  · have hkn : k < n := by omega
    obtain ⟨h, hh0, hr, hle, ha⟩ := comp_head (f := f) (g := g) hkn
    have hlow := head_low hkn hr hle ha
    have hcl : (compTo f g k n).length ≤ n := compTo_len
    have hnl : (NL (compTo f g k n)).length = (compTo f g k n).length := NL_len
    have hpos := (List.getElem?_eq_some_iff.1 hh0).1
    refine ⟨_, load_c (contOf_live d1) rfl rfl, ?_⟩
    refine callq rfl (component_ct S hS ho hkn) (by omega) ?_
    rintro _ rfl
    refine ⟨⟨⟨by omega, by omega⟩, len_map_le (by omega)⟩, ?_⟩
    refine ⟨_, ld (at_map (NL_get hh0)) (by show _ * 1 = 0; omega), ?_⟩
    refine ⟨fun heq => ?_, fun hne => ?_⟩
    · have hL : Low f g k := hlow.1 (by omega)
      refine ⟨by omega, part1 fzL ⟨[pIs (NL (compTo f g k n))], rfl, ?_⟩⟩
      have hcn : (compsTo f g n k).length ≤ k := by rw [compsTo_len]; exact lows_len
      refine appG (f := pIs) (e := 22) (y := NL (compTo f g k n)) d5.push push_cont rfl rfl rfl rfl (by kernel_rfl) rfl rfl (by omega) (by omega) fun v' σ' hv' hkp hbv => ?_
      have hne : ∀ q, q < σ.length → blkOf v' ≠ some q := fun q hq e => by
        rw [hbv] at e; have := Option.some.inj e; rw [List.length_append, List.length_singleton] at this; omega
      refine ⟨⟨by omega, by omega⟩, ?_⟩
      exact ⟨_, by omega, ci ⟨k + 1, _, v', σ', _, rfl, ⟨rfl, rfl, rfl, rfl, trivial⟩, rfl, by omega, by omega, ⟨hkp 0 _ d3 (push_old d1), hne 0 l0, by rw [compsTo_yes hL]; exact hv'⟩⟩⟩
    · have hL : ¬ Low f g k := fun hc => hne (by have := hlow.2 hc; omega)
      refine ⟨⟨by omega, by omega⟩, ?_⟩
      exact ⟨_, by omega, ci ⟨k + 1, _, v, σ, _, rfl, ⟨rfl, rfl, rfl, rfl, trivial⟩, rfl, by omega, by omega, ⟨d1, d3, by rw [compsTo_no hL]; exact d5⟩⟩⟩
  · have hkn : k = n := by omega
    subst hkn
    obtain ⟨σ', hf⟩ := d5.fz
    exact endf hf rfl
end Go.PI
/- CYCLES of a list; a part, of the reference. -/
open Go.Proofs
namespace Go.PI
open IM
set_option maxRecDepth 10000
set_option maxHeartbeats 4000000
variable (S : FuncId → Option (List AV → Heap → Option (AV × Heap)))
theorem fn24 : ctx.fn 24 = some c24 := by kernel_rfl
theorem cyclesAll_ct (hS : OldO S) {xs : List Int} (hl : xs.length ≤ 1000000) : Ct (ctx.plus S) 24 [pIs xs] 10000 fun v => (60 < xs.length ∧ v = .tup [.lst 0 [], pn 8]) ∨ (xs.length ≤ 60 ∧ chkP xs ≠ 0 ∧ v = .tup [.lst 0 [], pn (chkP xs)]) ∨ (xs.length ≤ 60 ∧ chkP xs = 0 ∧ ∃ f g, xs = PL xs.length f ∧ IsP xs.length f g ∧ v = .tup [pM (cycs xs.length f), pn 0]) := by
  refine ct_of (hS 24 (by decide)) fn24 ?_
  refine ⟨fun h => ?_, fun h => ?_⟩
  · exact ⟨⟨[], .inl ⟨by omega, rfl⟩⟩⟩
  refine callq rfl (checkP_ct S hS hl) (by omega) ?_
  rintro _ rfl
  refine ⟨fun h2 => ?_, fun h2 => ?_⟩
  · exact ⟨⟨[], .inr (.inl ⟨by omega, h2, rfl⟩)⟩⟩
  have hin : InR xs ∧ xs.Nodup := by
    rcases chkP_cases xs with ⟨-, a, b⟩ | a | a
    · exact ⟨a, b⟩
    · rw [a] at h2; omega
    · rw [a] at h2; omega
  obtain ⟨f, g, e, hp⟩ := perm_of hin.1 hin.2
  have hc := cycles_ct S hS hp (by omega)
  rw [← e] at hc
  have hm : 1 + xs.length * (2 * xs.length + 2) ≤ 7400 := by
    have := Nat.mul_le_mul (show xs.length ≤ 60 by omega) (show 2 * xs.length + 2 ≤ 122 by omega)
    omega
  refine callq rfl (hc.mono hm fun _ h => h) (by omega) ?_
  rintro _ rfl
  exact endsq rfl (.inr (.inr ⟨by omega, h2, f, g, e, hp, rfl⟩))
end Go.PI
/- THE ORDER in which squares are reached, of the reference. -/
open Go.Proofs
namespace Go.PI
open IM
set_option maxRecDepth 10000
set_option maxHeartbeats 4000000
variable (S : FuncId → Option (List AV → Heap → Option (AV × Heap)))
end Go.PI
/- RENUMBERED squares; which of two comes first: of the reference. -/
open Go.Proofs
namespace Go.PI
open IM
set_option maxRecDepth 10000
set_option maxHeartbeats 4000000
variable (S : FuncId → Option (List AV → Heap → Option (AV × Heap)))
def Oren : Opn := ⟨fun t => Nat.beq t 24, fun t => Nat.beq t 24 || Nat.beq t 22, true⟩
end Go.PI
/- WHICH OF TWO LISTS comes first. -/
open Go.Proofs
namespace Go.PI
open IM
set_option maxRecDepth 10000
set_option maxHeartbeats 4000000
variable (S : FuncId → Option (List AV → Heap → Option (AV × Heap)))
end Go.PI
/- THE LABEL of the reference. -/
open Go.Proofs
namespace Go.PI
open IM
set_option maxRecDepth 10000
set_option maxHeartbeats 4000000
variable (S : FuncId → Option (List AV → Heap → Option (AV × Heap)))
end Go.PI
/- THE LABEL of the reference: the best of all numberings. -/
open Go.Proofs
namespace Go.PI
open IM
set_option maxRecDepth 10000
set_option maxHeartbeats 4000000
variable (S : FuncId → Option (List AV → Heap → Option (AV × Heap)))
end Go.PI
/- NUMBERINGS of the program: one square more; which of two lists comes first. -/
open Go.Proofs
namespace Go.PI
open IM
set_option maxRecDepth 10000
set_option maxHeartbeats 4000000
variable (S : FuncId → Option (List AV → Heap → Option (AV × Heap)))
theorem fn160 : ctx.fn 160 = some c160 := by kernel_rfl
theorem isNaN_ct (hS : OldO S) {x : Int} : Ct (ctx.plus S) 160 [pn x] 0 fun w => w = .bool false := by
  refine ct_of (hS 160 (by decide)) fn160 ?_
  exact ⟨fun h => absurd rfl h, fun _ => endq rfl rfl⟩
theorem Gr.smP {α : Type} {f : α → PV} {e : TypeId} {v : PV} {σ : List StB} {Xs : List α} (h : Gr f e v σ Xs) : Go.PI.smP v = true := by
  rcases h with ⟨rfl, h⟩ | ⟨j, ty, rfl, h⟩ | ⟨j, rfl, h⟩ <;> rfl
theorem apW_of {α : Type} {f : α → PV} {e : TypeId} {v : PV} {σ : List StB} {Xs : List α} {T : List PV} {ys : List Tmp} (h : Gr f e v σ Xs) (k : ∀ j, blkOf v = some j → apC T j ys) : apW T ys v := by
  rcases h with ⟨rfl, h⟩ | ⟨j, ty, rfl, h⟩ | ⟨j, rfl, h⟩
  · trivial
  · exact k j rfl
  · exact k j rfl
theorem fn108 : ctx.fn 108 = some c108 := by kernel_rfl
theorem with_cm (hS : OldO S) {σ : List StB} {vr vu : PV} {X Y : List Nat} {a b : Nat} (hr : Gr pnn 3 vr σ X) (hu : Gr pnn 3 vu σ Y) (hru : ∀ j, blkOf vr = some j → blkOf vu ≠ some j) (hl : X.length ≤ 1000) (hl2 : Y.length ≤ 1000) :
    Cm (ctx.plus S) 108 [.agg [vr, vu], .agg [pnn a, pnn b]] σ 10 fun w σ' => ∃ vr' vu', w = .agg [vr', vu'] ∧ Gr pnn 3 vr' σ' (X ++ [a]) ∧ Gr pnn 3 vu' σ' (Y ++ [b]) ∧ (∀ j, blkOf vr' = some j → blkOf vu' ≠ some j) ∧ σ.length ≤ σ'.length ∧
      (∀ i bl, blkOf vr ≠ some i → blkOf vu ≠ some i → σ[i]? = some bl → σ'[i]? = some bl) ∧ (∀ i, i < σ.length → blkOf vr' ≠ some i ∧ blkOf vu' ≠ some i) := by
  refine cm_of Oren (hS 108 (by decide)) fn108 fun c k0 hc => ?_
  refine ⟨by omega, by omega, ?_⟩
  refine ⟨by omega, ?_⟩
  refine ⟨by kernel_rfl, ?_⟩
  have l1 : ∀ x, (σ ++ [x]).length = σ.length + 1 := fun x => by simp
  refine ⟨vr, load_liv (push_old (push_old push_get)) rfl rfl, hr.smP, ?_⟩
  refine ⟨⟨by omega, by omega⟩, ?_⟩
  refine ⟨_, load_k rfl rfl (contOf_app push_cont) (show [pnn a, pnn b][0]? = some (pnn a) from rfl) (by rfl), rfl, ?_⟩
  refine ⟨by omega, part1 fzI ⟨[pnn a], rfl, ?_⟩⟩
  have hA : ∀ j, j < σ.length → σ.length ≠ j := fun j hj e => by omega
  have hA2 : ∀ i, i < σ.length + 2 → i ≠ σ.length + 2 := fun i hi => by omega
  have hB : ∀ x j, j < σ.length → (σ ++ [x]).length ≠ j := fun x j hj e => by rw [l1] at e; omega
  refine ⟨apW_of hr fun j hj => ⟨hA j (hr.blk hj), hB _ j (hr.blk hj), hA j (hr.blk hj), hB _ j (hr.blk hj), trivial⟩, ?_⟩
  have g0 : ∀ {i : Nat} {bl : StB}, σ[i]? = some bl → i < σ.length := fun h => (List.getElem?_eq_some_iff.1 h).1
  refine appG (f := pnn) (e := 3) (y := a) hr.push.push.push.push push_cont rfl rfl rfl rfl (by kernel_rfl) rfl rfl (by omega) (by omega) fun vr' σ4 hr' hk hb' => ?_
  have L3 : (σ ++ [StB.liv 24 [vr, vu]] ++ [StB.live 107 [pnn a, pnn b]] ++ [StB.liv 24 [.nils, .nils]] ++ [StB.live 3 [pnn a]]).length = σ.length + 4 := by simp
  have hb' : blkOf vr' = some (σ.length + 4) := by rw [← L3]; exact hb'
  have hl4 := hr'.blk hb'
  have nr : ∀ i, σ.length ≤ i → blkOf vr ≠ some i := fun i hi e => by have := hr.blk e; omega
  have nu : ∀ i, σ.length ≤ i → blkOf vu ≠ some i := fun i hi e => by have := hu.blk e; omega
  have k0' := hk σ.length _ (nr _ (by omega)) (push_old (push_old (push_old push_get)))
  have k1' := hk (σ.length + 1) _ (nr _ (by omega)) (push_old (push_old (by rw [← l1 (StB.liv 24 [vr, vu])]; exact push_get)))
  have k2' := hk (σ.length + 2) _ (nr _ (by omega)) (push_old (by rw [show σ.length + 2 = (σ ++ [StB.liv 24 [vr, vu]] ++ [StB.live 107 [pnn a, pnn b]]).length by simp]; exact push_get))
  have hu4 : Gr pnn 3 vu σ4 Y := hu.keep fun i bl hi hbl => hk i bl (fun e => hru i e hi) (push_old (push_old (push_old (push_old hbl))))
  refine ⟨vu, load_liv k0' rfl rfl, hu.smP, ?_⟩
  refine ⟨⟨by omega, by omega⟩, ?_⟩
  rw [l1]
  refine ⟨_, load_k rfl rfl (contOf_live k1') (show [pnn a, pnn b][1]? = some (pnn b) from rfl) (by rfl), rfl, ?_⟩
  refine ⟨by omega, part1 fzI ⟨[pnn b], rfl, ?_⟩⟩
  have L4 : (σ4 ++ [StB.live 3 [pnn b]]).length = σ4.length + 1 := by simp
  refine ⟨apW_of hu4 fun j hj => ?_, ?_⟩
  · have hjl := hu.blk hj
    exact ⟨hA j hjl, fun e => by omega, hA j hjl, fun e => by omega, trivial⟩
  refine appG (f := pnn) (e := 3) (y := b) hu4.push push_cont rfl rfl rfl rfl (by kernel_rfl) rfl rfl (by omega) (by omega) fun vu' σ5 hu' hk5 hb5 => ?_
  rw [L4] at hb5
  have hl5 := hu'.blk hb5
  have k2'' := hk5 (σ.length + 2) _ (nu _ (by omega)) (push_old k2')
  have L2 : ∀ x y, (σ ++ [x] ++ [y]).length = σ.length + 2 := fun x y => by simp
  have hr5 : Gr pnn 3 vr' σ5 (X ++ [a]) := hr'.keep fun i bl hi hbl => by
    rw [hb'] at hi
    have := Option.some.inj hi
    exact hk5 i bl (nu i (by omega)) (push_old hbl)
  have l5 : σ.length + 2 < σ5.length := (List.getElem?_eq_some_iff.1 k2'').1
  have kp : ∀ q : Nat, q = σ.length + 2 → ∀ x : StB, (∀ i bl, blkOf vr ≠ some i → blkOf vu ≠ some i → σ[i]? = some bl → (σ5.set q x)[i]? = some bl) := fun q hq x i bl h1 h2 h3 => by
    have hi := g0 h3
    rw [List.getElem?_set_ne (by omega)]
    exact hk5 i bl h2 (push_old (hk i bl h1 (push_old (push_old (push_old (push_old h3))))))
  have fin : ∀ q : Nat, q = σ.length + 2 → ∀ x : StB, Gr pnn 3 vr' (σ5.set q x) (X ++ [a]) ∧ Gr pnn 3 vu' (σ5.set q x) (Y ++ [b]) ∧ (∀ j, blkOf vr' = some j → blkOf vu' ≠ some j) ∧ σ.length ≤ (σ5.set q x).length ∧
      (∀ i bl, blkOf vr ≠ some i → blkOf vu ≠ some i → σ[i]? = some bl → (σ5.set q x)[i]? = some bl) ∧ (∀ i, i < σ.length → blkOf vr' ≠ some i ∧ blkOf vu' ≠ some i) := fun q hq x => by
    refine ⟨hr5.keep fun i bl hi hbl => ?_, hu'.keep fun i bl hi hbl => ?_, fun j h1 h2 => ?_, by rw [List.length_set]; omega, kp q hq x, fun i hi => ⟨fun e => ?_, fun e => ?_⟩⟩
    · rw [hb'] at hi
      have := Option.some.inj hi
      rw [List.getElem?_set_ne (by omega)]; exact hbl
    · rw [hb5] at hi
      have := Option.some.inj hi
      rw [List.getElem?_set_ne (by omega)]; exact hbl
    · rw [hb'] at h1
      rw [hb5] at h2
      have := Option.some.inj h1
      have := Option.some.inj h2
      omega
    · rw [hb'] at e
      have := Option.some.inj e
      omega
    · rw [hb5] at e
      have := Option.some.inj e
      omega
  obtain ⟨j1, t1, -, e1⟩ := hr'.shape (by simp)
  obtain ⟨j2, t2, -, e2⟩ := hu'.shape (by simp)
  rcases e1 with rfl | rfl <;> rcases e2 with rfl | rfl
  all_goals
    refine ⟨_, rfl, ?_⟩
    rw [L2]
    refine ⟨⟨hA2 _ (by omega), hA2 _ (by omega), hA2 _ (by omega), hA2 _ (by omega), trivial⟩, ?_⟩
    refine ⟨_, _, k2'', ⟨rfl, by decide, rfl⟩, _, rfl, _, rfl, ?_⟩
    refine ⟨_, load_liv (List.getElem?_set_self l5) rfl rfl, ?_⟩
    obtain ⟨f1, f2, f3, f4, f5, f6⟩ := fin _ rfl _
    exact endm [] (by dsimp only; omega) ⟨_, _, rfl, f1, f2, f3, f4, f5, f6⟩
end Go.PI
