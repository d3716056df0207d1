/- Own work of the verifier: OgSr OgSo OgSp OyA. -/
import Derived.Test.YtefajaiioljjoaaOyBA
set_option linter.all false
set_option exponentiation.threshold 3000
set_option linter.deprecated false
/- A PART, of the reference. -/
open Go.Proofs
namespace Go.PI
open IM
set_option maxRecDepth 10000
set_option maxHeartbeats 4000000
variable (S : FuncId → Option (List AV → Heap → Option (AV × Heap)))
def Opr : Opn := ⟨fun t => Nat.beq t 24, fun t => Nat.beq t 24 || Nat.beq t 22, false⟩
def ptL (C : List Nat) (f : Nat → Nat) (k : Nat) : List Int := (C.take k).map fun x => idx (NL C) (f x)
theorem ptL_succ {C : List Nat} {f : Nat → Nat} {k x : Nat} (h : C[k]? = some x) : ptL C f (k + 1) = ptL C f k ++ [idx (NL C) (f x)] := by
  unfold ptL
  rw [List.take_add_one, h, List.map_append]
  rfl
theorem ptL_len {C : List Nat} {f : Nat → Nat} {k : Nat} (h : k ≤ C.length) : (ptL C f k).length = k := by unfold ptL; rw [List.length_map, List.length_take]; omega
theorem fz2i {σ : List StB} {vr vu : PV} {X Y : List Int} (cr : Cn pn vr σ X) (cu : Cn pn vu σ Y) : ∃ σ2, Fz (.agg [vr, vu]) σ (pO X Y) σ2 := by
  obtain ⟨σ1, f1, c1, l1, k1⟩ := cr.fz
  obtain ⟨σ2, f2, c2, l2, k2⟩ := (cu.same c1).fz
  have h1 : ∀ K : PV → List StB → Prop, K (pIs X) σ1 → frzK σ vr K := fun K hK => by
    have := f1 K hK
    rcases cr with ⟨rfl, -⟩ | ⟨j, ty, -, rfl | rfl⟩ <;> exact this
  have h2 : ∀ K : PV → List StB → Prop, K (pIs Y) σ2 → frzK σ1 vu K := fun K hK => by
    have := f2 K hK
    rcases cu with ⟨rfl, -⟩ | ⟨j, ty, -, rfl | rfl⟩ <;> exact this
  exact ⟨σ2, fun K hK => h1 (fun p σ' => frzsK σ' [vu] fun ps σ'' => K (.agg (p :: ps)) σ'') (h2 (fun p σ'' => K (.agg [pIs X, p]) σ'') hK)⟩
theorem fn23 : ctx.fn 23 = some c23 := by kernel_rfl
theorem rpart_ct (hS : OldO S) {r u : List Int} {n k s : Nat} {f f' g g' : Nat → Nat} (ho : IsO r u n f f' g g') (hk : (lows f g n)[k]? = some s) :
    Ct (ctx.plus S) 23 [pO r u, pn k] 320000 fun w => w = pO (ptL (compTo f g s n) f (compTo f g s n).length) (ptL (compTo f g s n) g (compTo f g s n).length) := by
  have hn := ho.le
  refine ctO_of Opr (hS 23 (by decide)) fn23 ?_
  refine ⟨by omega, by omega, ?_⟩
  refine ⟨_, load_liv rfl rfl rfl, ?_⟩
  refine callq rfl (rcomponents_ct S hS ho) (by omega) ?_
  rintro _ rfl
  have hcl : (compsTo f g n n).length ≤ n := by rw [compsTo_len]; exact lows_len
  have hkl : k < (compsTo f g n n).length := by rw [compsTo_len]; exact (List.getElem?_eq_some_iff.1 hk).1
  have hget : (compsTo f g n n)[k]? = some (NL (compTo f g s n)) := by unfold compsTo; rw [List.getElem?_map, hk]; rfl
  refine ⟨⟨⟨by omega, by omega⟩, len_map_le (by omega)⟩, ?_⟩
  refine ⟨_, ld (at_map hget) (by show _ * 1 = k; omega), ?_⟩
  refine ⟨by omega, ?_⟩
  obtain ⟨C, hC⟩ : ∃ C, compTo f g s n = C := ⟨_, rfl⟩
  have hCn : C.length ≤ n := by rw [← hC]; exact compTo_len
  have hmem : ∀ x ∈ C, x < n := fun x hx => by rw [← hC] at hx; exact (mem_compTo.1 hx).1
  rw [hC]
  have hnl : (NL C).length = C.length := NL_len
  have gr : ∀ i, i < n → r[i]? = some (f i : Int) := fun i hi => by rw [ho.hr, PL_get hi]
  have gu : ∀ i, i < n → u[i]? = some (g i : Int) := fun i hi => by rw [ho.hu, PL_get hi]
  have hl := ho.l1
  refine ⟨fun q st => ∃ (i b : Nat) (vr vu : PV) (σ : List StB) (T : List PV), st = ⟨T, σ, b⟩ ∧ Gt T 50 [(2, .optr 0 0), (4, .optr 1 0), (5, pIs (NL C)), (6, .optr 2 0), (7, pn i)] ∧ q = C.length - i ∧ i ≤ C.length ∧ b ≤ 310010 + 10 * i ∧ Hid (σ[0]? = some (.liv 24 [pIs r, pIs u]) ∧ σ[1]? = some (.liv 24 [.nils, .nils]) ∧ σ[2]? = some (.liv 24 [vr, vu]) ∧ (∀ q, q < 3 → blkOf vr ≠ some q ∧ blkOf vu ≠ some q) ∧ (∀ q, blkOf vr = some q → blkOf vu ≠ some q) ∧ Gr pn 3 vr σ (ptL C f i) ∧ Gr pn 3 vu σ (ptL C g i)), ⟨_, ci ⟨0, _, .nils, .nils, _, _, rfl, ⟨rfl, rfl, rfl, rfl, rfl, rfl, trivial⟩, rfl, Nat.zero_le _, by omega, ⟨rfl, rfl, rfl, fun q _ => ⟨(fun h => by cases h), fun h => by cases h⟩, (fun q h => by cases h), .nil, .nil⟩⟩⟩, ?_⟩
  rintro _ st ⟨i, b, vr, vu, σ, T, rfl, hT, rfl, hi, hb, hh⟩
  obtain ⟨J, rfl⟩ := gt_open hT
  clear hT
  obtain ⟨d0, d1, d2, d3, d4, d5, d6⟩ := hh.h
  refine ⟨fun hlt => ?_, fun hge => ?_⟩
  · have hil : i < C.length := by omega
    obtain ⟨x, hx⟩ : ∃ x, C[i]? = some x := ⟨_, List.getElem?_eq_getElem hil⟩
    have hxn := hmem x (List.mem_of_getElem? hx)
    have s2 := (List.getElem?_eq_some_iff.1 d2).1
    refine ⟨by kernel_rfl, ?_⟩
    refine ⟨_, load_liv d2 rfl rfl, d5.smP, ?_⟩
    refine ⟨_, load_liv d0 rfl rfl, rfl, ?_⟩
    refine ⟨⟨⟨by omega, by omega⟩, len_map_le (by omega)⟩, ?_⟩
    refine ⟨_, ld (at_map (NL_get hx)) (by show _ * 1 = i; omega), rfl, ?_⟩
    refine ⟨⟨⟨by omega, by omega⟩, len_map_le (by omega)⟩, ?_⟩
    refine ⟨_, ld (at_map (gr x hxn)) (by show _ * 1 = x; omega), rfl, ?_⟩
    refine callq rfl (at_ct S hS (by omega)) (by omega) ?_
    rintro _ rfl
    refine ⟨by omega, part1 fzI ⟨[pn (idx (NL C) (f x))], rfl, ?_⟩⟩
    refine appG (f := pn) (e := 3) (y := idx (NL C) (f x)) d5.push push_cont rfl rfl rfl rfl (by kernel_rfl) rfl rfl (by rw [ptL_len (by omega)]; omega) (by omega) fun vr' σ1 hv1 hk1 hb1 => ?_
    rw [← ptL_succ hx] at hv1
    rw [List.length_append, List.length_singleton] at hb1
    have z0 := hk1 0 _ (d3 0 (by omega)).1 (push_old d0)
    have z1 := hk1 1 _ (d3 1 (by omega)).1 (push_old d1)
    have z2 := hk1 2 _ (d3 2 (by omega)).1 (push_old d2)
    have z2l := (List.getElem?_eq_some_iff.1 z2).1
    have one1 := hv1.cell
    refine ⟨_, _, z2, ⟨by rw [one1.1]; rfl, Nat.le_of_ble_eq_true rfl, by rw [one1.1]; show (vr'.one && true) = true; rw [one1.2]; rfl⟩, [vr', vu], by rw [one1.1]; rfl, _, rfl, ?_⟩
    have e6 : Gr pn 3 vu (σ1.set 2 (.liv 24 [vr', vu])) (ptL C g i) := d6.keep fun q bl hq hbl => by
      rw [List.getElem?_set_ne (fun e => (d3 2 (by omega)).2 (by rw [e]; exact hq))]
      exact hk1 q bl (fun e => d4 q e hq) (push_old hbl)
    have e5 : Gr pn 3 vr' (σ1.set 2 (.liv 24 [vr', vu])) (ptL C f (i + 1)) := hv1.keep fun q bl hq hbl => by
      rw [hb1] at hq
      have := Option.some.inj hq
      rw [List.getElem?_set_ne (by omega)]
      exact hbl
    have e0 : (σ1.set 2 (.liv 24 [vr', vu]))[0]? = some (.liv 24 [pIs r, pIs u]) := by rw [List.getElem?_set_ne (by omega)]; exact z0
    have e1 : (σ1.set 2 (.liv 24 [vr', vu]))[1]? = some (.liv 24 [.nils, .nils]) := by rw [List.getElem?_set_ne (by omega)]; exact z1
    have e2 : (σ1.set 2 (.liv 24 [vr', vu]))[2]? = some (.liv 24 [vr', vu]) := List.getElem?_set_self z2l
    have l1 := hv1.blk hb1
    obtain ⟨τ, hτ⟩ : ∃ τ, σ1.set 2 (.liv 24 [vr', vu]) = τ := ⟨_, rfl⟩
    have hτl : τ.length = σ1.length := by rw [← hτ, List.length_set]
    rw [hτ] at e0 e1 e2 e5 e6 ⊢
    refine ⟨by kernel_rfl, ?_⟩
    refine ⟨_, load_liv e2 rfl rfl, e6.smP, ?_⟩
    refine ⟨_, load_liv e0 rfl rfl, rfl, ?_⟩
    refine ⟨⟨⟨by omega, by omega⟩, len_map_le (by omega)⟩, ?_⟩
    refine ⟨_, ld (at_map (NL_get hx)) (by show _ * 1 = i; omega), rfl, ?_⟩
    refine ⟨⟨⟨by omega, by omega⟩, len_map_le (by omega)⟩, ?_⟩
    refine ⟨_, ld (at_map (gu x hxn)) (by show _ * 1 = x; omega), rfl, ?_⟩
    refine callq rfl (at_ct S hS (by omega)) (by omega) ?_
    rintro _ rfl
    refine ⟨by omega, part1 fzI ⟨[pn (idx (NL C) (g x))], rfl, ?_⟩⟩
    refine appG (f := pn) (e := 3) (y := idx (NL C) (g x)) e6.push push_cont rfl rfl rfl rfl (by kernel_rfl) rfl rfl (by rw [ptL_len (by omega)]; omega) (by omega) fun vu' σ2 hv2 hk2 hb2 => ?_
    rw [← ptL_succ hx] at hv2
    rw [List.length_append, List.length_singleton] at hb2
    have y0 := hk2 0 _ (d3 0 (by omega)).2 (push_old e0)
    have y1 := hk2 1 _ (d3 1 (by omega)).2 (push_old e1)
    have y2 := hk2 2 _ (d3 2 (by omega)).2 (push_old e2)
    have y2l := (List.getElem?_eq_some_iff.1 y2).1
    have one2 := hv2.cell
    refine ⟨_, _, y2, ⟨by rw [one2.1]; rfl, Nat.le_of_ble_eq_true rfl, by rw [one2.1]; show (vu'.one && true) = true; rw [one2.2]; rfl⟩, [vr', vu'], by rw [one2.1]; rfl, _, rfl, ?_⟩
    refine ⟨⟨by omega, by omega⟩, ?_⟩
    refine ⟨_, by omega, ci ⟨i + 1, _, vr', vu', _, _, rfl, ⟨rfl, rfl, rfl, rfl, rfl, rfl, trivial⟩, rfl, by omega, by omega, ⟨?_, ?_, ?_, fun q hq => ⟨fun e => ?_, fun e => ?_⟩, fun q h1 h2 => ?_, ?_, ?_⟩⟩⟩
    · rw [List.getElem?_set_ne (by omega)]; exact y0
    · rw [List.getElem?_set_ne (by omega)]; exact y1
    · exact List.getElem?_set_self y2l
    · rw [hb1] at e; have := Option.some.inj e; omega
    · rw [hb2] at e; have := Option.some.inj e; omega
    · rw [hb1] at h1; rw [hb2] at h2
      have := Option.some.inj h1
      have := Option.some.inj h2
      omega
    · refine e5.keep fun q bl hq hbl => ?_
      have hq' := hq
      rw [hb1] at hq
      have := Option.some.inj hq
      rw [List.getElem?_set_ne (by omega)]
      exact hk2 q bl (fun e => by have := d6.blk e; omega) (push_old hbl)
    · refine hv2.keep fun q bl hq hbl => ?_
      rw [hb2] at hq
      have := Option.some.inj hq
      rw [List.getElem?_set_ne (by omega)]
      exact hbl
  · have hin : i = C.length := by omega
    rw [hin] at d5 d6
    obtain ⟨σ2, hf⟩ := fz2i (σ := σ.set 1 (.liv 24 [vr, vu])) (d5.keep fun q bl hq hbl => by rw [List.getElem?_set_ne (fun e => (d3 1 (by omega)).1 (by rw [e]; exact hq))]; exact hbl).cn (d6.keep fun q bl hq hbl => by rw [List.getElem?_set_ne (fun e => (d3 1 (by omega)).2 (by rw [e]; exact hq))]; exact hbl).cn
    have c1 := d5.cell
    have c2 := d6.cell
    refine ⟨_, load_liv d2 rfl rfl, ?_⟩
    refine ⟨_, _, d1, ⟨rfl, Nat.le_of_ble_eq_true rfl, by show (vr.one && (vu.one && true)) = true; rw [c1.2, c2.2]; rfl⟩, _, rfl, _, rfl, ?_⟩
    refine ⟨_, load_liv (List.getElem?_set_self (List.getElem?_eq_some_iff.1 d1).1) rfl rfl, ?_⟩
    exact endf hf rfl
end Go.PI
/- SORTING of few numbers in their place. -/
open Go.Proofs
namespace Go.PI
open IM
set_option maxRecDepth 10000
set_option maxHeartbeats 4000000
variable (S : FuncId → Option (List AV → Heap → Option (AV × Heap)))
def Ins (ys : List Int) (i j : Nat) : Prop := ∀ a b, a < b → b ≤ i → b ≠ j → ∀ x y, ys[a]? = some x → ys[b]? = some y → x ≤ y
def Srt (ys : List Int) (i : Nat) : Prop := ∀ a b, a < b → b < i → ∀ x y, ys[a]? = some x → ys[b]? = some y → x ≤ y
theorem ins_start {ys : List Int} {i : Nat} (h : Srt ys i) : Ins ys i i := fun a b hab hb hne => h a b hab (by omega)
theorem ins_step {ys : List Int} {i j : Nat} {x y : Int} (h : Ins ys i (j + 1)) (hj : j + 1 ≤ i) (hil : i < ys.length) (hx : ys[j]? = some x) (hy : ys[j + 1]? = some y) (hlt : y < x) : Ins ((ys.set (j + 1) x).set j y) i j := by
  intro a b hab hbi hbj u w hu hw
  have ga : ∀ k, k ≠ j → k ≠ j + 1 → ((ys.set (j + 1) x).set j y)[k]? = ys[k]? := fun k h1 h2 => by rw [List.getElem?_set_ne (Ne.symm h1), List.getElem?_set_ne (Ne.symm h2)]
  have gj : ((ys.set (j + 1) x).set j y)[j]? = some y := List.getElem?_set_self (by rw [List.length_set]; omega)
  have gj1 : ((ys.set (j + 1) x).set j y)[j + 1]? = some x := by rw [List.getElem?_set_ne (by omega), List.getElem?_set_self (by omega)]
  by_cases hb1 : b = j + 1
  · subst hb1
    rw [gj1] at hw
    have := Option.some.inj hw
    by_cases ha : a = j
    · subst ha
      rw [gj] at hu
      have := Option.some.inj hu
      omega
    · rw [ga a ha (by omega)] at hu
      have := h a j (by omega) (by omega) (by omega) u x hu hx
      omega
  · rw [ga b hbj hb1] at hw
    by_cases ha : a = j
    · subst ha
      rw [gj] at hu
      have := Option.some.inj hu
      have := h (a + 1) b (by omega) hbi hb1 y w hy hw
      omega
    · by_cases ha1 : a = j + 1
      · subst ha1
        rw [gj1] at hu
        have := Option.some.inj hu
        have := h j b (by omega) hbi hb1 x w hx hw
        omega
      · rw [ga a ha ha1] at hu
        exact h a b hab hbi hb1 u w hu hw
theorem ins_end {ys : List Int} {i j : Nat} (h : Ins ys i j) (hj : j = 0 ∨ ∃ x y k, j = k + 1 ∧ ys[k]? = some x ∧ ys[j]? = some y ∧ x ≤ y) (hji : j ≤ i) : Srt ys (i + 1) := by
  intro a b hab hb u w hu hw
  by_cases hbj : b = j
  · subst hbj
    rcases hj with rfl | ⟨x, y, k, rfl, hx, hy, hxy⟩
    · omega
    · rw [hy] at hw
      have := Option.some.inj hw
      by_cases hak : a = k
      · subst hak
        rw [hx] at hu
        have := Option.some.inj hu
        omega
      · have := h a k (by omega) (by omega) (by omega) u x hu hx
        omega
  · exact h a b hab (by omega) hbj u w hu hw
theorem swap_perm1 {ys : List Int} {j : Nat} {x y : Int} (hx : ys[j]? = some x) (hy : ys[j + 1]? = some y) : ((ys.set (j + 1) x).set j y).Perm ys := by
  obtain ⟨h1, e1⟩ := List.getElem?_eq_some_iff.1 hx
  obtain ⟨h2, e2⟩ := List.getElem?_eq_some_iff.1 hy
  have := List.set_set_perm (h₁ := h2) (h₂ := h1)
  rw [e1, e2] at this
  exact this
theorem fn147 : ctx.fn 147 = some c147 := by kernel_rfl
theorem cmpLess_ct (hS : OldO S) {x y : Int} : Ct (ctx.plus S) 147 [pn x, pn y] 0 fun w => (x < y ∧ w = .bool true) ∨ (y ≤ x ∧ w = .bool false) := by
  refine ct_of (hS 147 (by decide)) fn147 ?_
  refine callq rfl (isNaN_ct S hS) (by omega) ?_
  rintro _ rfl
  refine ⟨fun h => ?_, fun h => ?_⟩
  · exact endq rfl (.inl ⟨by omega, rfl⟩)
  · exact endq rfl (.inr ⟨by omega, rfl⟩)
structure Sw (σ σ' : List StB) (jv : Nat) (ty : TypeId) (ys zs : List Int) : Prop where
  at' : σ'[jv]? = some (.live ty (zs.map pn))
  len : σ'.length = σ.length
  keep : ∀ i, i ≠ jv → σ'[i]? = σ[i]?
  perm : zs.Perm ys
theorem Sw.step {σ σ' : List StB} {jv : Nat} {ty : TypeId} {ys zs ws : List Int} (h : Sw σ σ' jv ty ys zs) (hp : ws.Perm zs) : Sw σ (σ'.set jv (.live ty (ws.map pn))) jv ty ys ws :=
  ⟨List.getElem?_set_self (List.getElem?_eq_some_iff.1 h.at').1, by rw [List.length_set]; exact h.len, fun i hi => by rw [List.getElem?_set_ne (Ne.symm hi)]; exact h.keep i hi, hp.trans h.perm⟩
theorem fn141 : ctx.fn 141 = some c141 := by kernel_rfl
theorem insSort_cm (hS : OldO S) {σ : List StB} {jv n : Nat} {ty : TypeId} {ys : List Int} {v : PV} (hv : v = .own jv 0 n n 1 ∨ v = .ownu jv n 1) (hj : σ[jv]? = some (.live ty (ys.map pn))) (hl : ys.length = n) (hn : n ≤ 1000) :
    Cm (ctx.plus S) 141 [v, pn 0, pn n] σ 0 fun w σ' => w = .tup [] ∧ ∃ zs, Sw σ σ' jv ty ys zs ∧ Srt zs n := by
  refine cm_of Opn.no (hS 141 (by decide)) fn141 fun c k0 hc => ?_
  rcases hv with rfl | rfl
  · refine ⟨⟨by omega, by omega⟩, ?_⟩
    refine ⟨fun q s => ∃ (i : Nat) (zs : List Int) (σ' : List StB) (T : List PV), s = ⟨T, σ', k0⟩ ∧ Gt T 49 [(0, .own jv 0 n n 1), (1, pn 0), (2, pn n), (6, pn i)] ∧ q = n + 1 - i ∧ 1 ≤ i ∧ i ≤ n + 1 ∧ Hid (Sw σ σ' jv ty ys zs ∧ Srt zs (min i n)), ⟨_, ci ⟨1, ys, _, _, rfl, ⟨rfl, rfl, rfl, rfl, rfl, trivial⟩, rfl, Nat.le_refl _, by omega, ⟨⟨hj, rfl, fun _ _ => rfl, .refl _⟩, fun a b hab hb => by omega⟩⟩⟩, ?_⟩
    rintro _ s ⟨i, zs, σ', T, rfl, hT, rfl, hi1, hi, hh⟩
    obtain ⟨J, rfl⟩ := gt_open hT
    clear hT
    obtain ⟨hw, hs⟩ := hh.h
    refine ⟨fun hlt => ?_, fun hge => ?_⟩
    · have hin : i < n := by omega
      rw [show min i n = i by omega] at hs
      refine ⟨fun q s => ∃ (j : Nat) (zs : List Int) (σ' : List StB) (T : List PV), s = ⟨T, σ', k0⟩ ∧ Gt T 49 [(0, .own jv 0 n n 1), (1, pn 0), (2, pn n), (6, pn i), (7, pn j)] ∧ q = j ∧ j ≤ i ∧ Hid (Sw σ σ' jv ty ys zs ∧ Ins zs i j), ⟨_, ci ⟨i, zs, _, _, rfl, ⟨rfl, rfl, rfl, rfl, rfl, rfl, trivial⟩, rfl, Nat.le_refl _, ⟨hw, ins_start hs⟩⟩⟩, ?_⟩
      clear hh hw hs zs σ'
      rintro q s ⟨j, zs, σ', T, rfl, hT, hq, hji, hh⟩
      obtain ⟨J, rfl⟩ := gt_open hT
      clear hT
      obtain ⟨hw, hs⟩ := hh.h
      have hzl : zs.length = n := by rw [hw.perm.length_eq]; exact hl
      have stop : (j = 0 ∨ ∃ x y k, j = k + 1 ∧ zs[k]? = some x ∧ zs[j]? = some y ∧ x ≤ y) → Srt zs (min (i + 1) n) := fun h => by
        rw [show min (i + 1) n = i + 1 by omega]
        exact ins_end hs h hji
      refine ⟨by kernel_rfl, ?_⟩
      refine ⟨fun hgt => ?_, fun hle => ?_⟩
      · obtain ⟨k, rfl⟩ : ∃ k, j = k + 1 := ⟨j - 1, by omega⟩
        obtain ⟨x, hx⟩ := xs_get (xs := zs) (i := k) (by omega)
        obtain ⟨y, hy⟩ := xs_get (xs := zs) (i := k + 1) (by omega)
        have hc1 := contOf_live hw.at'
        refine ⟨⟨by omega, by omega⟩, ?_⟩
        refine ⟨_, load_k rfl rfl hc1 (at_map hy) (by show 0 + _ * 1 = k + 1; omega), rfl, ?_⟩
        refine ⟨⟨by omega, by omega⟩, ?_⟩
        refine ⟨⟨by omega, by omega⟩, ?_⟩
        refine ⟨_, load_k rfl rfl hc1 (at_map hx) (by show 0 + _ * 1 = k; omega), rfl, ?_⟩
        refine callq rfl (cmpLess_ct S hS) (by omega) ?_
        rintro _ (⟨hlt2, rfl⟩ | ⟨hle2, rfl⟩)
        · refine ⟨by kernel_rfl, ?_⟩
          refine ⟨⟨by omega, by omega⟩, ?_⟩
          refine ⟨⟨by omega, by omega⟩, ?_⟩
          refine ⟨⟨by omega, by omega⟩, ?_⟩
          refine ⟨_, load_k rfl rfl hc1 (at_map hx) (by show 0 + _ * 1 = k; omega), rfl, ?_⟩
          refine ⟨⟨by omega, by omega⟩, ?_⟩
          refine ⟨_, load_k rfl rfl hc1 (at_map hy) (by show 0 + _ * 1 = k + 1; omega), rfl, ?_⟩
          have w1 := hw.step (ws := (zs.set (k + 1) x).set k y) (swap_perm1 hx hy)
          have hjl := (List.getElem?_eq_some_iff.1 hw.at').1
          refine ⟨⟨by omega, by omega⟩, ?_⟩
          refine ⟨_, _, hw.at', ⟨rfl, by rw [List.length_map]; show 0 + (k + 1) * 1 + 1 ≤ _; omega, rfl⟩, _, int_put (j := k + 1) (by show 0 + _ * 1 = k + 1; omega) (by omega), _, rfl, ?_⟩
          refine ⟨⟨by omega, by omega⟩, ?_⟩
          refine ⟨_, _, List.getElem?_set_self hjl, ⟨rfl, by rw [List.length_map, List.length_set]; show 0 + ((k + 1 : Nat) - 1 : Int).toNat * 1 + 1 ≤ _; omega, rfl⟩, _, int_put (j := k) (by show 0 + _ * 1 = k; omega) (by rw [List.length_set]; omega), _, List.set_set .., ?_⟩
          refine ⟨⟨by omega, by omega⟩, ?_⟩
          exact ⟨_, by omega, ci ⟨k, _, _, _, rfl, ⟨rfl, rfl, rfl, rfl, rfl, by show pn _ = pn _; congr 1; omega, trivial⟩, rfl, by omega, ⟨w1, ins_step hs hji (by omega) hx hy hlt2⟩⟩⟩
        · refine ⟨⟨by omega, by omega⟩, ?_⟩
          exact ⟨_, by omega, ci ⟨i + 1, zs, σ', _, rfl, ⟨rfl, rfl, rfl, rfl, rfl, trivial⟩, rfl, by omega, by omega, ⟨hw, stop (.inr ⟨x, y, k, rfl, hx, hy, hle2⟩)⟩⟩⟩
      · refine ⟨⟨by omega, by omega⟩, ?_⟩
        exact ⟨_, by omega, ci ⟨i + 1, zs, σ', _, rfl, ⟨rfl, rfl, rfl, rfl, rfl, trivial⟩, rfl, by omega, by omega, ⟨hw, stop (.inl (by omega))⟩⟩⟩
    · rw [show min i n = n by omega] at hs
      exact endm [] (by dsimp only; omega) ⟨rfl, zs, hw, hs⟩
  · refine ⟨⟨by omega, by omega⟩, ?_⟩
    refine ⟨fun q s => ∃ (i : Nat) (zs : List Int) (σ' : List StB) (T : List PV), s = ⟨T, σ', k0⟩ ∧ Gt T 49 [(0, .ownu jv n 1), (1, pn 0), (2, pn n), (6, pn i)] ∧ q = n + 1 - i ∧ 1 ≤ i ∧ i ≤ n + 1 ∧ Hid (Sw σ σ' jv ty ys zs ∧ Srt zs (min i n)), ⟨_, ci ⟨1, ys, _, _, rfl, ⟨rfl, rfl, rfl, rfl, rfl, trivial⟩, rfl, Nat.le_refl _, by omega, ⟨⟨hj, rfl, fun _ _ => rfl, .refl _⟩, fun a b hab hb => by omega⟩⟩⟩, ?_⟩
    rintro _ s ⟨i, zs, σ', T, rfl, hT, rfl, hi1, hi, hh⟩
    obtain ⟨J, rfl⟩ := gt_open hT
    clear hT
    obtain ⟨hw, hs⟩ := hh.h
    refine ⟨fun hlt => ?_, fun hge => ?_⟩
    · have hin : i < n := by omega
      rw [show min i n = i by omega] at hs
      refine ⟨fun q s => ∃ (j : Nat) (zs : List Int) (σ' : List StB) (T : List PV), s = ⟨T, σ', k0⟩ ∧ Gt T 49 [(0, .ownu jv n 1), (1, pn 0), (2, pn n), (6, pn i), (7, pn j)] ∧ q = j ∧ j ≤ i ∧ Hid (Sw σ σ' jv ty ys zs ∧ Ins zs i j), ⟨_, ci ⟨i, zs, _, _, rfl, ⟨rfl, rfl, rfl, rfl, rfl, rfl, trivial⟩, rfl, Nat.le_refl _, ⟨hw, ins_start hs⟩⟩⟩, ?_⟩
      clear hh hw hs zs σ'
      rintro q s ⟨j, zs, σ', T, rfl, hT, hq, hji, hh⟩
      obtain ⟨J, rfl⟩ := gt_open hT
      clear hT
      obtain ⟨hw, hs⟩ := hh.h
      have hzl : zs.length = n := by rw [hw.perm.length_eq]; exact hl
      have stop : (j = 0 ∨ ∃ x y k, j = k + 1 ∧ zs[k]? = some x ∧ zs[j]? = some y ∧ x ≤ y) → Srt zs (min (i + 1) n) := fun h => by
        rw [show min (i + 1) n = i + 1 by omega]
        exact ins_end hs h hji
      refine ⟨by kernel_rfl, ?_⟩
      refine ⟨fun hgt => ?_, fun hle => ?_⟩
      · obtain ⟨k, rfl⟩ : ∃ k, j = k + 1 := ⟨j - 1, by omega⟩
        obtain ⟨x, hx⟩ := xs_get (xs := zs) (i := k) (by omega)
        obtain ⟨y, hy⟩ := xs_get (xs := zs) (i := k + 1) (by omega)
        have hc1 := contOf_live hw.at'
        refine ⟨⟨by omega, by omega⟩, ?_⟩
        refine ⟨_, load_k rfl rfl hc1 (at_map hy) (by show 0 + _ * 1 = k + 1; omega), rfl, ?_⟩
        refine ⟨⟨by omega, by omega⟩, ?_⟩
        refine ⟨⟨by omega, by omega⟩, ?_⟩
        refine ⟨_, load_k rfl rfl hc1 (at_map hx) (by show 0 + _ * 1 = k; omega), rfl, ?_⟩
        refine callq rfl (cmpLess_ct S hS) (by omega) ?_
        rintro _ (⟨hlt2, rfl⟩ | ⟨hle2, rfl⟩)
        · refine ⟨by kernel_rfl, ?_⟩
          refine ⟨⟨by omega, by omega⟩, ?_⟩
          refine ⟨⟨by omega, by omega⟩, ?_⟩
          refine ⟨⟨by omega, by omega⟩, ?_⟩
          refine ⟨_, load_k rfl rfl hc1 (at_map hx) (by show 0 + _ * 1 = k; omega), rfl, ?_⟩
          refine ⟨⟨by omega, by omega⟩, ?_⟩
          refine ⟨_, load_k rfl rfl hc1 (at_map hy) (by show 0 + _ * 1 = k + 1; omega), rfl, ?_⟩
          have w1 := hw.step (ws := (zs.set (k + 1) x).set k y) (swap_perm1 hx hy)
          have hjl := (List.getElem?_eq_some_iff.1 hw.at').1
          refine ⟨⟨by omega, by omega⟩, ?_⟩
          refine ⟨_, _, hw.at', ⟨rfl, by rw [List.length_map]; show 0 + (k + 1) * 1 + 1 ≤ _; omega, rfl⟩, _, int_put (j := k + 1) (by show 0 + _ * 1 = k + 1; omega) (by omega), _, rfl, ?_⟩
          refine ⟨⟨by omega, by omega⟩, ?_⟩
          refine ⟨_, _, List.getElem?_set_self hjl, ⟨rfl, by rw [List.length_map, List.length_set]; show 0 + ((k + 1 : Nat) - 1 : Int).toNat * 1 + 1 ≤ _; omega, rfl⟩, _, int_put (j := k) (by show 0 + _ * 1 = k; omega) (by rw [List.length_set]; omega), _, List.set_set .., ?_⟩
          refine ⟨⟨by omega, by omega⟩, ?_⟩
          exact ⟨_, by omega, ci ⟨k, _, _, _, rfl, ⟨rfl, rfl, rfl, rfl, rfl, by show pn _ = pn _; congr 1; omega, trivial⟩, rfl, by omega, ⟨w1, ins_step hs hji (by omega) hx hy hlt2⟩⟩⟩
        · refine ⟨⟨by omega, by omega⟩, ?_⟩
          exact ⟨_, by omega, ci ⟨i + 1, zs, σ', _, rfl, ⟨rfl, rfl, rfl, rfl, rfl, trivial⟩, rfl, by omega, by omega, ⟨hw, stop (.inr ⟨x, y, k, rfl, hx, hy, hle2⟩)⟩⟩⟩
      · refine ⟨⟨by omega, by omega⟩, ?_⟩
        exact ⟨_, by omega, ci ⟨i + 1, zs, σ', _, rfl, ⟨rfl, rfl, rfl, rfl, rfl, trivial⟩, rfl, by omega, by omega, ⟨hw, stop (.inl (by omega))⟩⟩⟩
    · rw [show min i n = n by omega] at hs
      exact endm [] (by dsimp only; omega) ⟨rfl, zs, hw, hs⟩
end Go.PI
/- SORTING of few numbers in their place: from the outside. -/
open Go.Proofs
namespace Go.PI
open IM
set_option maxRecDepth 10000
set_option maxHeartbeats 4000000
variable (S : FuncId → Option (List AV → Heap → Option (AV × Heap)))
theorem fn134 : ctx.fn 134 = some c134 := by kernel_rfl
theorem pdq_cm (hS : OldO S) {σ : List StB} {jv n : Nat} {ty : TypeId} {ys : List Int} {v : PV} {d : Int} (hv : v = .own jv 0 n n 1 ∨ v = .ownu jv n 1) (hj : σ[jv]? = some (.live ty (ys.map pn))) (hl : ys.length = n) (hn : n ≤ 12) :
    Cm (ctx.plus S) 134 [v, pn 0, pn n, pn d] σ 0 fun w σ' => w = .tup [] ∧ ∃ zs, Sw σ σ' jv ty ys zs ∧ Srt zs n := by
  refine cm_of Opn.no (hS 134 (by decide)) fn134 fun c k0 hc => ?_
  refine ⟨fun q s => ∃ (T : List PV), s = ⟨T, σ, k0⟩ ∧ Gt T 134 [(0, v), (1, pn 0), (2, pn n)], ⟨0, ci ⟨_, rfl, ⟨rfl, rfl, rfl, rfl, trivial⟩⟩⟩, ?_⟩
  rintro _ s ⟨T, rfl, hT⟩
  obtain ⟨J, rfl⟩ := gt_open hT
  clear hT
  refine ⟨⟨by omega, by omega⟩, ?_⟩
  refine ⟨fun _ => ?_, fun h => absurd h (by omega)⟩
  refine callm (insSort_cm S hS hv hj hl (by omega)) (by omega) ?_
  rintro _ σ' ⟨rfl, zs, h1, h2⟩
  exact endm [] (by dsimp only; omega) ⟨rfl, zs, h1, h2⟩
theorem fn151 : ctx.fn 151 = some c151 := by kernel_rfl
theorem len64_ct (hS : OldO S) {n : Nat} (hn : n ≤ 12) : Ct (ctx.plus S) 151 [.int .u64 n] 0 fun w => ∃ d : Int, w = pn d := by
  refine ct_of (hS 151 (by decide)) fn151 ?_
  have : n = 0 ∨ n = 1 ∨ n = 2 ∨ n = 3 ∨ n = 4 ∨ n = 5 ∨ n = 6 ∨ n = 7 ∨ n = 8 ∨ n = 9 ∨ n = 10 ∨ n = 11 ∨ n = 12 := by omega
  rcases this with rfl | rfl | rfl | rfl | rfl | rfl | rfl | rfl | rfl | rfl | rfl | rfl | rfl
  all_goals
    refine ⟨rfl, _, rfl, ?_⟩
    refine ⟨rfl, _, rfl, ?_⟩
    refine ⟨rfl, _, rfl, ?_⟩
    refine ⟨by decide, _, rfl, ?_⟩
    refine ⟨⟨by decide, by decide⟩, ?_⟩
    exact endq rfl ⟨_, rfl⟩
theorem fn135 : ctx.fn 135 = some c135 := by kernel_rfl
theorem len_ct (hS : OldO S) {n : Nat} (hn : n ≤ 12) : Ct (ctx.plus S) 135 [.int .u64 n] 0 fun w => ∃ d : Int, w = pn d := by
  refine ct_of (hS 135 (by decide)) fn135 ?_
  refine callq rfl (len64_ct S hS hn) (by omega) ?_
  rintro _ ⟨d, rfl⟩
  exact endq rfl ⟨d, rfl⟩
theorem fn105 : ctx.fn 105 = some c105 := by kernel_rfl
theorem sort_cm (hS : OldO S) {σ : List StB} {jv n : Nat} {ty : TypeId} {ys : List Int} {v : PV} (hv : v = .own jv 0 n n 1 ∨ v = .ownu jv n 1) (hj : σ[jv]? = some (.live ty (ys.map pn))) (hl : ys.length = n) (hn : n ≤ 12) :
    Cm (ctx.plus S) 105 [v] σ 0 fun w σ' => w = .tup [] ∧ ∃ zs, Sw σ σ' jv ty ys zs ∧ Srt zs n := by
  refine cm_of Opn.no (hS 105 (by decide)) fn105 fun c k0 hc => ?_
  have hv2 := hv
  rcases hv with rfl | rfl
  all_goals
    have hwr : IntKind.wrap .u64 (n : Int) = n := by
      have : n = 0 ∨ n = 1 ∨ n = 2 ∨ n = 3 ∨ n = 4 ∨ n = 5 ∨ n = 6 ∨ n = 7 ∨ n = 8 ∨ n = 9 ∨ n = 10 ∨ n = 11 ∨ n = 12 := by omega
      rcases this with rfl | rfl | rfl | rfl | rfl | rfl | rfl | rfl | rfl | rfl | rfl | rfl | rfl <;> decide
    have hlen := len_ct S hS hn
    rw [← hwr] at hlen
    refine callq rfl hlen (by omega) ?_
    rintro _ ⟨d, rfl⟩
    refine callm (pdq_cm S hS hv2 hj hl hn) (by omega) ?_
    rintro _ σ' ⟨rfl, zs, h1, h2⟩
    exact endm [] (by dsimp only; omega) ⟨rfl, zs, h1, h2⟩
end Go.PI
/- A COMPONENT in order: what the sorted squares are. -/
open Go.Proofs
namespace Go.PI
open IM
theorem srt_pw {ys : List Int} : Srt ys ys.length ↔ ys.Pairwise (· ≤ ·) := by
  rw [List.pairwise_iff_getElem]
  constructor
  · intro h i j hi hj hij
    exact h i j hij hj _ _ (List.getElem?_eq_getElem hi) (List.getElem?_eq_getElem hj)
  · intro h a b hab hb x y hx hy
    obtain ⟨ha, e1⟩ := List.getElem?_eq_some_iff.1 hx
    obtain ⟨hb', e2⟩ := List.getElem?_eq_some_iff.1 hy
    rw [← e1, ← e2]
    exact h a b ha hb' hab
theorem compTo_pw {f g : Nat → Nat} {s n : Nat} : (compTo f g s n).Pairwise (· < ·) := by
  unfold compTo
  exact List.Pairwise.filter _ List.pairwise_lt_range
theorem compTo_nodup {f g : Nat → Nat} {s n : Nat} : (compTo f g s n).Nodup := compTo_pw.imp fun h e => by omega
theorem bfs_perm {n s k : Nat} {f f' g g' : Nat → Nat} (pf : IsP n f f') (pg : IsP n g g') (hs : s < n) (hk : (bfs f g s k).length ≤ k) : (bfs f g s k).Perm (compTo f g s n) := by
  rw [List.perm_ext_iff_of_nodup (bfs_nodup k) compTo_nodup]
  intro y
  rw [bfs_iff hk, mem_compTo]
  exact ⟨fun h => ⟨rch_lt pf pg hs h, h⟩, fun h => h.2⟩
theorem srt_comp {n s k : Nat} {f f' g g' : Nat → Nat} {zs : List Int} (pf : IsP n f f') (pg : IsP n g g') (hs : s < n) (hk : (bfs f g s k).length ≤ k) (hp : zs.Perm (NL (bfs f g s k))) (hz : Srt zs zs.length) : zs = NL (compTo f g s n) := by
  have h1 : zs.Perm (NL (compTo f g s n)) := hp.trans ((bfs_perm pf pg hs hk).map _)
  have h2 : (NL (compTo f g s n)).Pairwise (· ≤ ·) := by
    unfold NL
    rw [List.pairwise_map]
    exact compTo_pw.imp fun h => by omega
  exact List.Perm.eq_of_pairwise (le := fun a b : Int => a ≤ b) (fun a b _ _ h1 h2 => by omega) (srt_pw.1 hz) h2 h1
def Flg (n : Nat) (f g : Nat → Nat) (k : Nat) (fl : List Bool) : Prop := fl.length = n ∧ ∀ y : Nat, y < n → (fl[y]? = some true ↔ ∃ x, x < k ∧ Rch f g x y)
def FlgTo (n : Nat) (f g : Nat → Nat) (k : Nat) (B : List Nat) (j : Nat) (fl : List Bool) : Prop := fl.length = n ∧ ∀ y : Nat, y < n → (fl[y]? = some true ↔ (∃ x, x < k ∧ Rch f g x y) ∨ y ∈ B.take j)
theorem flg_low {n k : Nat} {f f' g g' : Nat → Nat} (pf : IsP n f f') (pg : IsP n g g') (hk : k < n) {fl : List Bool} (h : Flg n f g k fl) : fl[k]? = some true ↔ ¬ Low f g k := by
  rw [h.2 k hk]
  constructor
  · rintro ⟨x, hx, hr⟩ hl
    exact hl x hx (hr.symm pf pg (by omega))
  · intro hl
    refine Classical.byContradiction fun hc => hl fun y hy hr => hc ⟨y, hy, hr.symm pf pg hk⟩
theorem flg_skip {n k : Nat} {f f' g g' : Nat → Nat} (pf : IsP n f f') (pg : IsP n g g') (hk : k < n) {fl : List Bool} (h : Flg n f g k fl) (hl : ¬ Low f g k) : Flg n f g (k + 1) fl := by
  refine ⟨h.1, fun y hy => ?_⟩
  rw [h.2 y hy]
  obtain ⟨x, hx, hr⟩ := (h.2 k hk).1 ((flg_low pf pg hk h).2 hl)
  constructor
  · rintro ⟨z, hz, hz2⟩
    exact ⟨z, by omega, hz2⟩
  · rintro ⟨z, hz, hz2⟩
    by_cases e : z = k
    · subst e
      exact ⟨x, hx, hr.trans hz2⟩
    · exact ⟨z, by omega, hz2⟩
theorem flgTo_zero {n k : Nat} {f g : Nat → Nat} {B : List Nat} {fl : List Bool} (h : Flg n f g k fl) : FlgTo n f g k B 0 fl := ⟨h.1, fun y hy => by rw [h.2 y hy]; simp⟩
theorem flgTo_next {n k j x : Nat} {f g : Nat → Nat} {B : List Nat} {fl : List Bool} (h : FlgTo n f g k B j fl) (hx : B[j]? = some x) (hxn : x < n) : FlgTo n f g k B (j + 1) (fl.set x true) := by
  refine ⟨by rw [List.length_set]; exact h.1, fun y hy => ?_⟩
  rw [List.take_add_one, hx]
  by_cases e : x = y
  · subst e
    rw [List.getElem?_set_self (by have := h.1; omega)]
    simp
  · rw [List.getElem?_set_ne e, h.2 y hy]
    simp [show ¬ y = x from fun h => e h.symm]
theorem flgTo_done {n k q : Nat} {f g : Nat → Nat} {fl : List Bool} (h : FlgTo n f g k (bfs f g k q) (bfs f g k q).length fl) (hq : (bfs f g k q).length ≤ q) : Flg n f g (k + 1) fl := by
  refine ⟨h.1, fun y hy => ?_⟩
  rw [h.2 y hy, List.take_length, bfs_iff hq]
  constructor
  · rintro (⟨x, hx, hr⟩ | hr)
    · exact ⟨x, by omega, hr⟩
    · exact ⟨k, by omega, hr⟩
  · rintro ⟨x, hx, hr⟩
    by_cases e : x = k
    · subst e; exact .inr hr
    · exact .inl ⟨x, by omega, hr⟩
theorem flg_zero0 {n : Nat} {f g : Nat → Nat} : Flg n f g 0 (List.replicate n false) := by
  refine ⟨by simp, fun y hy => ?_⟩
  rw [List.getElem?_replicate]
  constructor
  · intro h
    split at h <;> simp at h
  · rintro ⟨x, hx, -⟩
    omega
end Go.PI
