/- Own work of the verifier: OgAd OgSo OgSp OgL OgM OgN OgO OgP OzA OzB. -/
import Derived.Test.YtefajaiioljjoaaOwBC
import Derived.Test.YtefajaiioljjoaaOwBA
import Derived.Test.YtefajaiioljjoaaOwAV
import Derived.Test.YtefajaiioljjoaaOwBB
set_option linter.all false
set_option exponentiation.threshold 3000
set_option linter.deprecated false
/- NUMBERINGS of the program: one square more; which of two lists comes first. -/
open Go.Proofs
namespace Go.PI
open IM
set_option maxRecDepth 10000
set_option maxHeartbeats 4000000
variable (S : FuncId → Option (List AV → Heap → Option (AV × Heap)))
theorem fn160 : ctx.fn 160 = some c160 := by kernel_rfl
theorem isNaN_ct (hS : OldO S) {x : Int} : Ct (ctx.plus S) 160 [pn x] 0 fun w => w = .bool false := by
  refine ct_of (hS 160 (by decide)) fn160 ?_
  exact ⟨fun h => absurd rfl h, fun _ => endq rfl rfl⟩
theorem fn152 : ctx.fn 152 = some c152 := by kernel_rfl
theorem compare_ct (hS : OldO S) {x y : Int} : Ct (ctx.plus S) 152 [pn x, pn y] 0 fun w => (x < y ∧ w = pn (-1)) ∨ (x = y ∧ w = pn 0) ∨ (y < x ∧ w = pn 1) := by
  refine ct_of (hS 152 (by decide)) fn152 ?_
  refine callq rfl (isNaN_ct S hS) (by omega) ?_
  rintro _ rfl
  refine callq rfl (isNaN_ct S hS) (by omega) ?_
  rintro _ rfl
  refine ⟨fun h => ?_, fun h => ?_⟩
  · exact endq rfl (.inl ⟨by omega, rfl⟩)
  refine ⟨fun h2 => ?_, fun h2 => ?_⟩
  · exact endq rfl (.inr (.inr ⟨by omega, rfl⟩))
  · exact endq rfl (.inr (.inl ⟨by omega, rfl⟩))
theorem fn138 : ctx.fn 138 = some c138 := by kernel_rfl
theorem compareL_ct (hS : OldO S) {xs ys : List Int} (hl : xs.length = ys.length) (hx : xs.length ≤ 1000000) : Ct (ctx.plus S) 138 [pIs xs, pIs ys] 0 fun w => ∃ c : Int, w = pn c ∧ (c < 0 ↔ Lt xs ys) := by
  refine ct_of (hS 138 (by decide)) fn138 ?_
  refine ⟨fun m s => ∃ (i : Nat) (T : List PV), s = ⟨T, [], 0⟩ ∧ Gt T 36 [(0, pIs xs), (1, pIs ys), (9, pIs xs), (10, pn xs.length), (11, pn i)] ∧ m = xs.length - i ∧ i ≤ xs.length ∧ Hid (Eqs xs ys i), ⟨_, ci ⟨0, _, rfl, ⟨rfl, rfl, rfl, rfl, rfl, rfl, trivial⟩, rfl, Nat.zero_le _, ⟨rfl⟩⟩⟩, ?_⟩
  rintro _ s ⟨i, T, rfl, hT, rfl, hi, hn⟩
  obtain ⟨J, rfl⟩ := gt_open hT
  clear hT
  refine ⟨fun hlt => ?_, fun hge => ?_⟩
  · obtain ⟨a, ha⟩ := xs_get (xs := xs) (i := i) (by omega)
    obtain ⟨b, hb⟩ := xs_get (xs := ys) (i := i) (by omega)
    refine ⟨⟨⟨by omega, by omega⟩, len_map_le (by omega)⟩, ?_⟩
    refine ⟨_, ld (at_map ha) (by show _ * 1 = i; omega), ?_⟩
    refine ⟨fun h => absurd h (by omega), fun _ => ?_⟩
    refine ⟨⟨⟨by omega, by omega⟩, len_map_le (by omega)⟩, ?_⟩
    refine ⟨_, ld (at_map hb) (by show _ * 1 = i; omega), ?_⟩
    refine callq rfl (compare_ct S hS) (by omega) ?_
    rintro _ (⟨h, rfl⟩ | ⟨h, rfl⟩ | ⟨h, rfl⟩)
    · refine ⟨fun _ => ?_, fun h => absurd h (by decide)⟩
      exact endq rfl ⟨-1, rfl, fun _ => (lt_at hn.h ha hb (by omega)).2 h, fun _ => by omega⟩
    · refine ⟨fun h => absurd rfl h, fun _ => ?_⟩
      refine ⟨⟨by omega, by omega⟩, ?_⟩
      exact ⟨_, by omega, ci ⟨i + 1, _, rfl, ⟨rfl, rfl, rfl, rfl, rfl, rfl, trivial⟩, rfl, by omega, ⟨eqs_next hn.h ha hb h⟩⟩⟩
    · refine ⟨fun _ => ?_, fun h => absurd h (by decide)⟩
      exact endq rfl ⟨1, rfl, fun h => by omega, fun hc => by have := (lt_at hn.h ha hb (by omega)).1 hc; omega⟩
  · have he : xs = ys := by
      have := hn.h; unfold Eqs at this
      rwa [List.take_of_length_le (by omega), List.take_of_length_le (by omega)] at this
    refine ⟨fun h => absurd h (by omega), fun _ => ?_⟩
    exact endq rfl ⟨0, rfl, fun h => by omega, fun hc => by rw [he] at hc; exact absurd hc lt_irr⟩
theorem Gr.smP {α : Type} {f : α → PV} {e : TypeId} {v : PV} {σ : List StB} {Xs : List α} (h : Gr f e v σ Xs) : Go.PI.smP v = true := by
  rcases h with ⟨rfl, h⟩ | ⟨j, ty, rfl, h⟩ | ⟨j, rfl, h⟩ <;> rfl
theorem apW_of {α : Type} {f : α → PV} {e : TypeId} {v : PV} {σ : List StB} {Xs : List α} {T : List PV} {ys : List Tmp} (h : Gr f e v σ Xs) (k : ∀ j, blkOf v = some j → apC T j ys) : apW T ys v := by
  rcases h with ⟨rfl, h⟩ | ⟨j, ty, rfl, h⟩ | ⟨j, rfl, h⟩
  · trivial
  · exact k j rfl
  · exact k j rfl
theorem fn108 : ctx.fn 108 = some c108 := by kernel_rfl
theorem with_cm (hS : OldO S) {σ : List StB} {vr vu : PV} {X Y : List Nat} {a b : Nat} (hr : Gr pnn 3 vr σ X) (hu : Gr pnn 3 vu σ Y) (hru : ∀ j, blkOf vr = some j → blkOf vu ≠ some j) (hl : X.length ≤ 1000) (hl2 : Y.length ≤ 1000) :
    Cm (ctx.plus S) 108 [.agg [vr, vu], .agg [pnn a, pnn b]] σ 10 fun w σ' => ∃ vr' vu', w = .agg [vr', vu'] ∧ Gr pnn 3 vr' σ' (X ++ [a]) ∧ Gr pnn 3 vu' σ' (Y ++ [b]) ∧ (∀ j, blkOf vr' = some j → blkOf vu' ≠ some j) ∧ σ.length ≤ σ'.length ∧
      (∀ i bl, blkOf vr ≠ some i → blkOf vu ≠ some i → σ[i]? = some bl → σ'[i]? = some bl) ∧ (∀ i, i < σ.length → blkOf vr' ≠ some i ∧ blkOf vu' ≠ some i) := by
  refine cm_of Oren (hS 108 (by decide)) fn108 fun c k0 hc => ?_
  refine ⟨by omega, by omega, ?_⟩
  refine ⟨by omega, ?_⟩
  refine ⟨by kernel_rfl, ?_⟩
  have l1 : ∀ x, (σ ++ [x]).length = σ.length + 1 := fun x => by simp
  refine ⟨vr, load_liv (push_old (push_old push_get)) rfl rfl, hr.smP, ?_⟩
  refine ⟨⟨by omega, by omega⟩, ?_⟩
  refine ⟨_, load_k rfl rfl (contOf_app push_cont) (show [pnn a, pnn b][0]? = some (pnn a) from rfl) (by rfl), rfl, ?_⟩
  refine ⟨by omega, part1 fzI ⟨[pnn a], rfl, ?_⟩⟩
  have hA : ∀ j, j < σ.length → σ.length ≠ j := fun j hj e => by omega
  have hA2 : ∀ i, i < σ.length + 2 → i ≠ σ.length + 2 := fun i hi => by omega
  have hB : ∀ x j, j < σ.length → (σ ++ [x]).length ≠ j := fun x j hj e => by rw [l1] at e; omega
  refine ⟨apW_of hr fun j hj => ⟨hA j (hr.blk hj), hB _ j (hr.blk hj), hA j (hr.blk hj), hB _ j (hr.blk hj), trivial⟩, ?_⟩
  have g0 : ∀ {i : Nat} {bl : StB}, σ[i]? = some bl → i < σ.length := fun h => (List.getElem?_eq_some_iff.1 h).1
  refine appG (f := pnn) (e := 3) (y := a) hr.push.push.push.push push_cont rfl rfl rfl rfl (by kernel_rfl) rfl rfl (by omega) (by omega) fun vr' σ4 hr' hk hb' => ?_
  have L3 : (σ ++ [StB.liv 24 [vr, vu]] ++ [StB.live 107 [pnn a, pnn b]] ++ [StB.liv 24 [.nils, .nils]] ++ [StB.live 3 [pnn a]]).length = σ.length + 4 := by simp
  have hb' : blkOf vr' = some (σ.length + 4) := by rw [← L3]; exact hb'
  have hl4 := hr'.blk hb'
  have nr : ∀ i, σ.length ≤ i → blkOf vr ≠ some i := fun i hi e => by have := hr.blk e; omega
  have nu : ∀ i, σ.length ≤ i → blkOf vu ≠ some i := fun i hi e => by have := hu.blk e; omega
  have k0' := hk σ.length _ (nr _ (by omega)) (push_old (push_old (push_old push_get)))
  have k1' := hk (σ.length + 1) _ (nr _ (by omega)) (push_old (push_old (by rw [← l1 (StB.liv 24 [vr, vu])]; exact push_get)))
  have k2' := hk (σ.length + 2) _ (nr _ (by omega)) (push_old (by rw [show σ.length + 2 = (σ ++ [StB.liv 24 [vr, vu]] ++ [StB.live 107 [pnn a, pnn b]]).length by simp]; exact push_get))
  have hu4 : Gr pnn 3 vu σ4 Y := hu.keep fun i bl hi hbl => hk i bl (fun e => hru i e hi) (push_old (push_old (push_old (push_old hbl))))
  refine ⟨vu, load_liv k0' rfl rfl, hu.smP, ?_⟩
  refine ⟨⟨by omega, by omega⟩, ?_⟩
  rw [l1]
  refine ⟨_, load_k rfl rfl (contOf_live k1') (show [pnn a, pnn b][1]? = some (pnn b) from rfl) (by rfl), rfl, ?_⟩
  refine ⟨by omega, part1 fzI ⟨[pnn b], rfl, ?_⟩⟩
  have L4 : (σ4 ++ [StB.live 3 [pnn b]]).length = σ4.length + 1 := by simp
  refine ⟨apW_of hu4 fun j hj => ?_, ?_⟩
  · have hjl := hu.blk hj
    exact ⟨hA j hjl, fun e => by omega, hA j hjl, fun e => by omega, trivial⟩
  refine appG (f := pnn) (e := 3) (y := b) hu4.push push_cont rfl rfl rfl rfl (by kernel_rfl) rfl rfl (by omega) (by omega) fun vu' σ5 hu' hk5 hb5 => ?_
  rw [L4] at hb5
  have hl5 := hu'.blk hb5
  have k2'' := hk5 (σ.length + 2) _ (nu _ (by omega)) (push_old k2')
  have L2 : ∀ x y, (σ ++ [x] ++ [y]).length = σ.length + 2 := fun x y => by simp
  have hr5 : Gr pnn 3 vr' σ5 (X ++ [a]) := hr'.keep fun i bl hi hbl => by
    rw [hb'] at hi
    have := Option.some.inj hi
    exact hk5 i bl (nu i (by omega)) (push_old hbl)
  have l5 : σ.length + 2 < σ5.length := (List.getElem?_eq_some_iff.1 k2'').1
  have kp : ∀ q : Nat, q = σ.length + 2 → ∀ x : StB, (∀ i bl, blkOf vr ≠ some i → blkOf vu ≠ some i → σ[i]? = some bl → (σ5.set q x)[i]? = some bl) := fun q hq x i bl h1 h2 h3 => by
    have hi := g0 h3
    rw [List.getElem?_set_ne (by omega)]
    exact hk5 i bl h2 (push_old (hk i bl h1 (push_old (push_old (push_old (push_old h3))))))
  have fin : ∀ q : Nat, q = σ.length + 2 → ∀ x : StB, Gr pnn 3 vr' (σ5.set q x) (X ++ [a]) ∧ Gr pnn 3 vu' (σ5.set q x) (Y ++ [b]) ∧ (∀ j, blkOf vr' = some j → blkOf vu' ≠ some j) ∧ σ.length ≤ (σ5.set q x).length ∧
      (∀ i bl, blkOf vr ≠ some i → blkOf vu ≠ some i → σ[i]? = some bl → (σ5.set q x)[i]? = some bl) ∧ (∀ i, i < σ.length → blkOf vr' ≠ some i ∧ blkOf vu' ≠ some i) := fun q hq x => by
    refine ⟨hr5.keep fun i bl hi hbl => ?_, hu'.keep fun i bl hi hbl => ?_, fun j h1 h2 => ?_, by rw [List.length_set]; omega, kp q hq x, fun i hi => ⟨fun e => ?_, fun e => ?_⟩⟩
    · rw [hb'] at hi
      have := Option.some.inj hi
      rw [List.getElem?_set_ne (by omega)]; exact hbl
    · rw [hb5] at hi
      have := Option.some.inj hi
      rw [List.getElem?_set_ne (by omega)]; exact hbl
    · rw [hb'] at h1
      rw [hb5] at h2
      have := Option.some.inj h1
      have := Option.some.inj h2
      omega
    · rw [hb'] at e
      have := Option.some.inj e
      omega
    · rw [hb5] at e
      have := Option.some.inj e
      omega
  obtain ⟨j1, t1, -, e1⟩ := hr'.shape (by simp)
  obtain ⟨j2, t2, -, e2⟩ := hu'.shape (by simp)
  rcases e1 with rfl | rfl <;> rcases e2 with rfl | rfl
  all_goals
    refine ⟨_, rfl, ?_⟩
    rw [L2]
    refine ⟨⟨hA2 _ (by omega), hA2 _ (by omega), hA2 _ (by omega), hA2 _ (by omega), trivial⟩, ?_⟩
    refine ⟨_, _, k2'', ⟨rfl, by decide, rfl⟩, _, rfl, _, rfl, ?_⟩
    refine ⟨_, load_liv (List.getElem?_set_self l5) rfl rfl, ?_⟩
    obtain ⟨f1, f2, f3, f4, f5, f6⟩ := fin _ rfl _
    exact endm [] (by dsimp only; omega) ⟨_, _, rfl, f1, f2, f3, f4, f5, f6⟩
end Go.PI
/- SORTING of few numbers in their place. -/
open Go.Proofs
namespace Go.PI
open IM
set_option maxRecDepth 10000
set_option maxHeartbeats 4000000
variable (S : FuncId → Option (List AV → Heap → Option (AV × Heap)))
def Srt (ys : List Int) (i : Nat) : Prop := ∀ a b, a < b → b < i → ∀ x y, ys[a]? = some x → ys[b]? = some y → x ≤ y
structure Sw (σ σ' : List StB) (jv : Nat) (ty : TypeId) (ys zs : List Int) : Prop where
  at' : σ'[jv]? = some (.live ty (zs.map pn))
  len : σ'.length = σ.length
  keep : ∀ i, i ≠ jv → σ'[i]? = σ[i]?
  perm : zs.Perm ys
theorem Sw.step {σ σ' : List StB} {jv : Nat} {ty : TypeId} {ys zs ws : List Int} (h : Sw σ σ' jv ty ys zs) (hp : ws.Perm zs) : Sw σ (σ'.set jv (.live ty (ws.map pn))) jv ty ys ws :=
  ⟨List.getElem?_set_self (List.getElem?_eq_some_iff.1 h.at').1, by rw [List.length_set]; exact h.len, fun i hi => by rw [List.getElem?_set_ne (Ne.symm hi)]; exact h.keep i hi, hp.trans h.perm⟩
end Go.PI
/- SORTING of numbers in their place, by the library's contract. -/
open Go.Proofs
namespace Go.PI
open IM
set_option maxRecDepth 10000
set_option maxHeartbeats 4000000
variable (S : FuncId → Option (List AV → Heap → Option (AV × Heap)))
theorem rel_ints0 {H : Heap} {W : Nat → Prop} : ∀ (xs : List Int), All2 (RelC H W) (xs.map pn) (ints xs)
  | [] => .nil
  | x :: xs => .cons (.int _ _) (rel_ints0 xs)
theorem ints_rel0 {H : Heap} {W : Nat → Prop} : ∀ {xs : List Int} {l : List AV}, All2 (RelC H W) (xs.map pn) l → l = ints xs
  | [], _, h => by cases h; rfl
  | x :: xs, _, h => by
    cases h with
    | cons h1 h2 =>
      cases h1
      rw [ints_rel0 h2]
      rfl
theorem sort3_cm (hs : S 105 = some sSort) {σ : List StB} {j n : Nat} {xs : List Int} {v : PV} (hv : v = .own j 0 n n 1 ∨ v = .ownu j n 1) (hj : σ[j]? = some (.live 3 (xs.map pn))) (hl : xs.length = n) (h0 : 0 < n) (h1 : n < 1000000000) :
    Cm (ctx.plus S) 105 [v] σ 0 fun r σ' => r = .tup [] ∧ σ' = σ.set j (.live 3 ((srt xs).map pn)) := by
  intro H0 W0 c k W β H avs I hc hr
  obtain ⟨b, hb⟩ := I.blk hj
  obtain ⟨hW, acs, hg, hac⟩ := I.live j 3 _ b hj hb
  have ha := ints_rel0 hac
  subst ha
  have hS : srtB b n H = some (.tup [], H.set b (.cells true 3 (ints (srt xs)))) := by
    unfold srtB
    rw [if_pos ⟨h0, h1⟩, hg]
    simp only
    rw [if_pos (by rw [ints_length]; omega), List.take_of_length_le (by rw [ints_length]; omega), intsOf_ints, List.drop_of_length_le (by rw [ints_length]; omega)]
    simp only [List.append_nil]
  obtain ⟨E, I'⟩ := I.write hj hb (ty' := 3) (cs' := (srt xs).map pn) (rel_ints0 (srt xs))
  have hsum : ∃ us, avs = us ∧ sSort us H = some (.tup [], H.set b (.cells true 3 (ints (srt xs)))) := by
    refine ⟨_, rfl, ?_⟩
    cases hr with
    | cons q1 q2 =>
      cases q2
      rcases hv with rfl | rfl
      · obtain ⟨b', hb', rfl⟩ := q1.own_inv
        rw [hb] at hb'; cases hb'
        show (if n ≤ n then srtB b n H else none) = _
        rw [if_pos (Nat.le_refl _), hS]
      · obtain ⟨b', hb', rfl⟩ := q1.ownu_inv
        rw [hb] at hb'; cases hb'
        exact hS
  obtain ⟨us, rfl, hsum⟩ := hsum
  refine Cl.of_sum (v := .tup []) (H' := H.set b (.cells true 3 (ints (srt xs)))) ?_ ?_
  · have e : (ctx.plus S).sum 105 = some sSort := hs
    unfold sumE
    rw [e]
    exact hsum
  · exact ⟨_, _, k, W, β, E, I', .tup .nil, ⟨rfl, rfl⟩, by omega⟩
theorem srt_srt (xs : List Int) : Srt (srt xs) xs.length := by
  intro a b hab hb x y hx hy
  have h : (srt xs).Pairwise fun x y => decide (x ≤ y) = true := List.pairwise_mergeSort (fun a b c h1 h2 => by simp only [decide_eq_true_eq] at *; omega) (fun a b => by simp only [Bool.or_eq_true, decide_eq_true_eq]; omega) xs
  obtain ⟨ha, rfl⟩ := List.getElem?_eq_some_iff.1 hx
  obtain ⟨hb', rfl⟩ := List.getElem?_eq_some_iff.1 hy
  have := List.pairwise_iff_getElem.1 h a b ha hb' hab
  simpa using this
theorem sort_cm (hS : OldO S) {σ : List StB} {jv n : Nat} {ys : List Int} {v : PV} (hv : v = .own jv 0 n n 1 ∨ v = .ownu jv n 1) (hj : σ[jv]? = some (.live 3 (ys.map pn))) (hl : ys.length = n) (h0 : 0 < n) (h1 : n < 1000000000) :
    Cm (ctx.plus S) 105 [v] σ 0 fun w σ' => w = .tup [] ∧ ∃ zs, Sw σ σ' jv 3 ys zs ∧ Srt zs n :=
  (sort3_cm S hS.srt hv hj hl h0 h1).post (Nat.le_refl _) fun w σ' h => by
    obtain ⟨rfl, rfl⟩ := h
    refine ⟨rfl, srt ys, ⟨List.getElem?_set_self (List.getElem?_eq_some_iff.1 hj).1, List.length_set, fun i hi => List.getElem?_set_ne (Ne.symm hi), List.mergeSort_perm _ _⟩, ?_⟩
    rw [← hl]
    exact srt_srt ys
end Go.PI
/- DIRECTIONS: numbers, and how the squares are cut anew. -/
open Go.Proofs
namespace Go.PI
open IM
set_option maxRecDepth 10000
set_option maxHeartbeats 4000000
theorem tqm {p q : Int} (hq : q ≠ 0) : p = q * p.tdiv q + p.tmod q ∧ (0 ≤ p → 0 ≤ p.tmod q) ∧ (p ≤ 0 → p.tmod q ≤ 0) ∧ (p.tmod q).natAbs < q.natAbs ∧ (p.tdiv q).natAbs ≤ p.natAbs := by
  refine ⟨(Int.mul_tdiv_add_tmod p q).symm, fun h => Int.tmod_nonneg _ h, fun h => ?_, ?_, ?_⟩
  · have := Int.tmod_nonneg q (show 0 ≤ -p by omega)
    rw [Int.neg_tmod] at this
    omega
  · rw [Int.natAbs_tmod]; exact Nat.mod_lt _ (by omega)
  · rw [Int.natAbs_tdiv]; exact Nat.div_le_self _ _
open Classical in
noncomputable def floorZ (p q : Int) : Int := if h : ∃ k, FloorIs p q k then h.choose else 0
structure TS where
  f : Nat → Nat
  f' : Nat → Nat
  g : Nat → Nat
  g' : Nat → Nat
  p : Int
  q : Int
def shf (f f' : Nat → Nat) (k : Int) : Nat → Nat := if 0 ≤ k then it f k.toNat else it f' (-k).toNat
noncomputable def TS.step (s : TS) : TS :=
  { f := fun i => shf s.f s.f' (floorZ s.p s.q) (s.g i), f' := fun i => s.g' (shf s.f' s.f (floorZ s.p s.q) i), g := s.f', g' := s.f, p := s.q, q := -(s.p - floorZ s.p s.q * s.q) }
noncomputable def TS.fin (s : TS) : TS := if s.p < 0 then { s with f := s.f', f' := s.f, g := s.g', g' := s.g } else s
structure TS.Ok (n : Nat) (s : TS) : Prop where
  pr : IsP n s.f s.f'
  pu : IsP n s.g s.g'
theorem it_isP {n : Nat} {f f' : Nat → Nat} (h : IsP n f f') (k : Nat) : IsP n (it f k) (it f' k) := ⟨fun i hi => it_lt h hi k, fun i hi => it_lt h.inv hi k, fun i hi => by
      induction k with
      | zero => rfl
      | succ k ih => rw [show it f (k + 1) i = f (it f k i) from rfl, it_succ', h.gf _ (it_lt h hi k), ih], fun i hi => by
      induction k with
      | zero => rfl
      | succ k ih => rw [show it f' (k + 1) i = f' (it f' k i) from rfl, it_succ', h.fg _ (it_lt h.inv hi k), ih]⟩
theorem shf_isP {n : Nat} {f f' : Nat → Nat} (h : IsP n f f') (k : Int) : IsP n (shf f f' k) (shf f' f k) := by
  unfold shf
  split
  · exact it_isP h _
  · exact it_isP h.inv _
theorem TS.Ok.step {n : Nat} {s : TS} (h : s.Ok n) : s.step.Ok n := ⟨h.pu.comp (shf_isP h.pr _), h.pr.inv⟩
theorem TS.Ok.fin {n : Nat} {s : TS} (h : s.Ok n) : s.fin.Ok n := by
  unfold TS.fin
  split
  · exact ⟨h.pr.inv, h.pu.inv⟩
  · exact h
def TS.cm (s : TS) : Nat → Nat := cmf s.f s.f' s.g s.g'
def TS.ci (s : TS) : Nat → Nat := cmi s.f s.f' s.g s.g'
theorem TS.Ok.cm {n : Nat} {s : TS} (h : s.Ok n) : IsP n s.cm s.ci := ((h.pr.inv.comp h.pu.inv).comp h.pr).comp h.pu
end Go.PI
/- DIRECTIONS: numbers, of the program and of the reference. -/
open Go.Proofs
namespace Go.PI
open IM
set_option maxRecDepth 10000
set_option maxHeartbeats 4000000
variable (S : FuncId → Option (List AV → Heap → Option (AV × Heap)))
theorem gcd_step {a b : Int} (hb : b ≠ 0) : Nat.gcd b.natAbs (a.tmod b).natAbs = Nat.gcd a.natAbs b.natAbs := by
  rw [Int.natAbs_tmod, Nat.gcd_comm b.natAbs, ← Nat.gcd_rec, Nat.gcd_comm]
theorem fn100 : ctx.fn 100 = some c100 := by kernel_rfl
theorem gcd_ct (hS : OldO S) {p q : Int} (hp : p.natAbs ≤ 100000) (hq : q.natAbs ≤ 100000) : Ct (ctx.plus S) 100 [pn p, pn q] 0 fun v => v = pn (Nat.gcd p.natAbs q.natAbs : Nat) := by
  refine ct_of (hS 100 (by decide)) fn100 ?_
  refine ⟨fun m s => ∃ (a b : Int) (T : List PV), s = ⟨T, [], 0⟩ ∧ Gt T 15 [(0, pn a), (1, pn b)] ∧ m = b.natAbs ∧ a.natAbs ≤ 100000 ∧ b.natAbs ≤ 100000 ∧ Hid (Nat.gcd a.natAbs b.natAbs = Nat.gcd p.natAbs q.natAbs), ⟨_, ci ⟨p, q, _, rfl, ⟨rfl, rfl, rfl, trivial⟩, rfl, hp, hq, ⟨rfl⟩⟩⟩, ?_⟩
  rintro _ s ⟨a, b, T, rfl, hT, rfl, ha, hb, hg⟩
  obtain ⟨J, rfl⟩ := gt_open hT
  clear hT
  refine ⟨fun hne => ?_, fun heq => ?_⟩
  · obtain ⟨t1, t2, t3, t4, t5⟩ := tqm (p := a) hne
    refine ⟨by kernel_rfl, ?_⟩
    refine ⟨hne, ?_⟩
    exact ⟨_, t4, ci ⟨b, a.tmod b, _, rfl, ⟨rfl, rfl, rfl, trivial⟩, rfl, hb, by omega, ⟨by rw [gcd_step hne]; exact hg.h⟩⟩⟩
  · have h0 : b = 0 := heq
    subst h0
    have := hg.h
    rw [Int.natAbs_zero, Nat.gcd_zero_right] at this
    refine ⟨⟨by omega, by omega⟩, ?_⟩
    refine endq rfl ?_
    rw [← this]
    show pn _ = pn _
    congr 1
    omega
end Go.PI
/- DIRECTIONS: origamis cut anew, by the program. -/
open Go.Proofs
namespace Go.PI
open IM
set_option maxRecDepth 10000
set_option maxHeartbeats 4000000
variable (S : FuncId → Option (List AV → Heap → Option (AV × Heap)))
end Go.PI
/- DIRECTIONS: of the reference; the law. -/
open Go.Proofs
namespace Go.PI
open IM
set_option maxRecDepth 10000
set_option maxHeartbeats 4000000
variable (S : FuncId → Option (List AV → Heap → Option (AV × Heap)))
end Go.PI
/- STRATA of the reference; the law of directions. -/
open Go.Proofs
namespace Go.PI
open IM
set_option maxRecDepth 10000
set_option maxHeartbeats 4000000
variable (S : FuncId → Option (List AV → Heap → Option (AV × Heap)))
def cntI (M : List (List Int)) (L : Nat) : Nat := (M.filter fun l => decide (l.length = L)).length
theorem cnt_cycs {n : Nat} {c : Nat → Nat} {L : Nat} : cntI (cycs n c) L = (leads n c L).length := by
  unfold cntI cycs leads
  rw [List.filter_map, List.length_map, List.filter_filter]
  congr 1
  apply List.filter_congr
  intro x _
  simp only [Function.comp, cyc_len]
  by_cases h1 : lead c x <;> by_cases h2 : ordr c x = L <;> simp [h1, h2]
theorem cnt_le {M : List (List Int)} {L i : Nat} : cntI (M.take i) L ≤ M.length := by
  unfold cntI
  refine Nat.le_trans (List.length_filter_le _ _) ?_
  rw [List.length_take]
  omega
def accTo (n : Nat) (M : List (List Int)) (j : Nat) : List Int := (List.range j).flatMap fun i => List.replicate (cntI M (n - i + 1)) ((n - i : Nat) : Int)
theorem acc_succ {n j : Nat} {M : List (List Int)} : accTo n M (j + 1) = accTo n M j ++ List.replicate (cntI M (n - j + 1)) ((n - j : Nat) : Int) := by
  unfold accTo
  rw [List.range_succ, List.flatMap_append]
  simp
theorem acc_len {n : Nat} {M : List (List Int)} : ∀ j, (accTo n M j).length ≤ j * M.length
  | 0 => by simp [accTo]
  | j + 1 => by
    rw [acc_succ, List.length_append, List.length_replicate, Nat.succ_mul]
    have := acc_len (n := n) (M := M) j
    have h2 : cntI M (n - j + 1) ≤ M.length := by
      have := cnt_le (M := M) (L := n - j + 1) (i := M.length)
      rwa [List.take_length] at this
    omega
theorem fn22 : ctx.fn 22 = some c22 := by kernel_rfl
theorem sameO_ct (hS : OldO S) {t b t' b' : List Int} (l1 : t.length ≤ 1000000) (l2 : b.length ≤ 1000000) (l3 : t'.length ≤ 1000000) (l4 : b'.length ≤ 1000000) :
    Ct (ctx.plus S) 22 [pO t b, pO t' b'] 2 fun r => r = .bool (decide (t = t' ∧ b = b')) := by
  refine ct_of (hS 22 (by decide)) fn22 ?_
  refine ⟨by omega, by omega, ?_⟩
  refine ⟨_, rfl, ?_⟩
  refine ⟨_, rfl, ?_⟩
  refine callq rfl (ints_ct S hS l1 l3) (by omega) ?_
  rintro _ rfl
  by_cases h1 : t = t'
  · rw [decide_eq_true h1]
    refine ⟨_, rfl, ?_⟩
    refine ⟨_, rfl, ?_⟩
    refine callq rfl (ints_ct S hS l2 l4) (by omega) ?_
    rintro _ rfl
    exact endq rfl (by simp [h1])
  · rw [decide_eq_false h1]
    exact endq rfl (by simp [h1])
end Go.PI
/- MAPS OF SQUARES: two ways to find the one that takes square 0 to a square. -/
open Go.Proofs
namespace Go.PI
open IM
inductive Jr (f g F G : Nat → Nat) (s : Nat) : Nat → Nat → Prop
  | base : Jr f g F G s 0 s
  | f {y z : Nat} (h : Jr f g F G s y z) : Jr f g F G s (f y) (F z)
  | g {y z : Nat} (h : Jr f g F G s y z) : Jr f g F G s (g y) (G z)
structure MapAt (n m s : Nat) (f g F G h : Nat → Nat) : Prop where
  z : h 0 = s
  lt : ∀ x, x < n → h x < m
  c : ∀ x, x < n → h (f x) = F (h x) ∧ h (g x) = G (h x)
section
variable {n m s : Nat} {f f' g g' F F' G G' h : Nat → Nat}
theorem jr_lt (pf : IsP n f f') (pg : IsP n g g') (pF : IsP m F F') (pG : IsP m G G') (h0 : 0 < n) (hs : s < m) {y z : Nat} (hj : Jr f g F G s y z) : y < n ∧ z < m := by
  induction hj with
  | base => exact ⟨h0, hs⟩
  | f _ ih => exact ⟨pf.lt _ ih.1, pF.lt _ ih.2⟩
  | g _ ih => exact ⟨pg.lt _ ih.1, pG.lt _ ih.2⟩
theorem jr_map (pf : IsP n f f') (pg : IsP n g g') (h0 : 0 < n) (hm : MapAt n m s f g F G h) {y z : Nat} (hj : Jr f g F G s y z) : y < n ∧ z = h y := by
  induction hj with
  | base => exact ⟨h0, hm.z.symm⟩
  | @f y z _ ih => exact ⟨pf.lt _ ih.1, by rw [(hm.c y ih.1).1, ← ih.2]⟩
  | @g y z _ ih => exact ⟨pg.lt _ ih.1, by rw [(hm.c y ih.1).2, ← ih.2]⟩
theorem map_uniq (pf : IsP n f f') (pg : IsP n g g') (h0 : 0 < n) (hcn : Conn n f g) {k : Nat → Nat} (hm : MapAt n m s f g F G h) (km : MapAt n m s f g F G k) : ∀ y, y < n → h y = k y := by
  have key : ∀ y, Rch f g 0 y → Jr f g F G s y (h y) := fun y hr => by
    induction hr with
    | refl => rw [hm.z]; exact .base
    | @f y hr ih => rw [(hm.c y (rch_lt pf pg h0 hr)).1]; exact .f ih
    | @g y hr ih => rw [(hm.c y (rch_lt pf pg h0 hr)).2]; exact .g ih
  intro y hy
  exact (jr_map pf pg h0 km (key y (hcn y hy))).2
theorem map_PL (pf : IsP n f f') (pg : IsP n g g') (h0 : 0 < n) (hcn : Conn n f g) {k : Nat → Nat} (hm : MapAt n m s f g F G h) (km : MapAt n m s f g F G k) : PL n h = PL n k := by
  unfold PL
  exact List.map_congr_left fun y hy => by rw [map_uniq pf pg h0 hcn hm km y (List.mem_range.1 hy)]
end
structure BM (n s : Nat) (f g F G : Nat → Nat) (D Q : List Int) : Prop where
  len : D.length = n
  ql : Q.length + D.count (-1) ≤ n
  bd : ∀ (w : Nat) (d : Int), D[w]? = some d → d = -1 ∨ ∃ z : Nat, d = z ∧ Jr f g F G s w z
  st : D[0]? = some (s : Int)
  q : ∀ v ∈ Q, ∃ w : Nat, v = w ∧ ∃ d : Nat, D[w]? = some (d : Int)
  cl : ∀ (w d : Nat), D[w]? = some (d : Int) → (w : Int) ∉ Q → D[f w]? = some (F d : Int) ∧ D[g w]? = some (G d : Int)
section
variable {n m s : Nat} {f f' g g' F F' G G' h : Nat → Nat} {D Q : List Int}
theorem cnt_set {D : List Int} {z : Nat} {a : Int} (hz : D[z]? = some (-1)) (ha : a ≠ -1) : (D.set z a).count (-1) + 1 = D.count (-1) := by
  obtain ⟨h1, h2⟩ := List.getElem?_eq_some_iff.1 hz
  have hm : (-1 : Int) ∈ D := List.mem_of_getElem? hz
  have hp := List.count_pos_iff.2 hm
  rw [List.count_set h1, h2]
  simp only [beq_self_eq_true, if_true]
  rw [if_neg (by simpa using ha)]
  omega
theorem bm_get {z q : Nat} {a : Int} {e : Nat} (hz : D[z]? = some (-1)) (hq : D[q]? = some (e : Int)) : (D.set z a)[q]? = some (e : Int) := by
  have hqz : z ≠ q := fun e2 => by subst e2; rw [hz] at hq; have := Option.some.inj hq; omega
  rw [List.getElem?_set_ne hqz]; exact hq
theorem BM.put (h : BM n s f g F G D Q) {z e : Nat} (hz : D[z]? = some (-1)) (hj : Jr f g F G s z e) : BM n s f g F G (D.set z (e : Int)) (Q ++ [(z : Int)]) := by
  have hzl := (List.getElem?_eq_some_iff.1 hz).1
  have hc := cnt_set hz (a := (e : Int)) (by omega)
  have hset : ∀ (q : Nat) (x : Int), (D.set z (e : Int))[q]? = some x → (q = z ∧ x = e) ∨ (q ≠ z ∧ D[q]? = some x) := fun q x hq => by
    by_cases hqz : q = z
    · subst hqz
      rw [List.getElem?_set_self hzl] at hq
      exact .inl ⟨rfl, (Option.some.inj hq).symm⟩
    · rw [List.getElem?_set_ne (fun e => hqz e.symm)] at hq
      exact .inr ⟨hqz, hq⟩
  refine ⟨by rw [List.length_set]; exact h.len, by have := h.ql; simp only [List.length_append, List.length_cons, List.length_nil]; omega, fun q x hq => ?_, bm_get hz h.st, fun v hv => ?_, fun q x hq hnq => ?_⟩
  · rcases hset q x hq with ⟨rfl, rfl⟩ | ⟨-, hq⟩
    · exact .inr ⟨e, rfl, hj⟩
    · exact h.bd q x hq
  · rcases List.mem_append.1 hv with hv | hv
    · obtain ⟨w, rfl, d, hd⟩ := h.q v hv
      exact ⟨w, rfl, d, bm_get hz hd⟩
    · rw [List.mem_singleton.1 hv]
      exact ⟨z, rfl, e, List.getElem?_set_self hzl⟩
  · rcases hset q _ hq with ⟨rfl, -⟩ | ⟨-, hq⟩
    · exact absurd (by simp) hnq
    · obtain ⟨a1, a2⟩ := h.cl q x hq fun hm => hnq (by simp [hm])
      exact ⟨bm_get hz a1, bm_get hz a2⟩
theorem BM.pop {w d : Nat} (h : BM n s f g F G D ((w : Int) :: Q)) (hd : D[w]? = some (d : Int)) (h1 : D[f w]? = some (F d : Int)) (h2 : D[g w]? = some (G d : Int)) : BM n s f g F G D Q := by
  refine ⟨h.len, by have := h.ql; simp only [List.length_cons] at this; omega, h.bd, h.st, fun v hv => h.q v (List.mem_cons_of_mem _ hv), fun q x hq hnq => ?_⟩
  by_cases e : q = w
  · subst e
    rw [hd] at hq
    have : x = d := by have := Option.some.inj hq; omega
    subst this
    exact ⟨h1, h2⟩
  · exact h.cl q x hq fun hm => by
      rcases List.mem_cons.1 hm with hm | hm
      · omega
      · exact hnq hm
theorem BM.start (h0 : 0 < n) : BM n s f g F G ((List.replicate n (-1 : Int)).set 0 (s : Int)) [0] := by
  obtain ⟨k, rfl⟩ : ∃ k, n = k + 1 := ⟨n - 1, by omega⟩
  rw [List.replicate_succ, List.set_cons_zero]
  refine ⟨by simp, ?_, fun w d hw => ?_, rfl, fun v hv => ?_, fun w d hw hn => ?_⟩
  · rw [List.count_cons_of_ne (by omega), List.count_replicate_self]
    simp; omega
  · cases w with
    | zero =>
      have := Option.some.inj hw
      exact .inr ⟨s, this.symm, .base⟩
    | succ w =>
      rw [List.getElem?_cons_succ, List.getElem?_replicate] at hw
      split at hw
      · exact .inl (Option.some.inj hw).symm
      · cases hw
  · rw [List.mem_singleton.1 hv]
    exact ⟨0, rfl, s, rfl⟩
  · cases w with
    | zero => exact absurd (by simp) hn
    | succ w =>
      rw [List.getElem?_cons_succ, List.getElem?_replicate] at hw
      split at hw
      · have := Option.some.inj hw; omega
      · cases hw
theorem BM.fin (pf : IsP n f f') (pg : IsP n g g') (pF : IsP m F F') (pG : IsP m G G') (h0 : 0 < n) (hs : s < m) (hcn : Conn n f g) (h : BM n s f g F G D []) : ∃ k, MapAt n m s f g F G k ∧ D = PL n k := by
  have key : ∀ y, Rch f g 0 y → ∃ d : Nat, D[y]? = some (d : Int) := fun y hr => by
    induction hr with
    | refl => exact ⟨s, h.st⟩
    | @f y _ ih => obtain ⟨d, hd⟩ := ih; exact ⟨_, (h.cl y d hd (by simp)).1⟩
    | @g y _ ih => obtain ⟨d, hd⟩ := ih; exact ⟨_, (h.cl y d hd (by simp)).2⟩
  have hk : ∀ y, y < n → D[y]? = some (((D.getD y 0).toNat : Nat) : Int) := fun y hy => by
    obtain ⟨d, hd⟩ := key y (hcn y hy)
    rw [List.getD_eq_getElem?_getD, hd]
    simp
  refine ⟨fun y => (D.getD y 0).toNat, ⟨?_, fun y hy => ?_, fun y hy => ?_⟩, ?_⟩
  · rw [List.getD_eq_getElem?_getD, h.st]; simp
  · rcases h.bd y _ (hk y hy) with hb | ⟨z, hz, hj⟩
    · omega
    · have := (jr_lt pf pg pF pG h0 hs hj).2
      omega
  · obtain ⟨a1, a2⟩ := h.cl y _ (hk y hy) (by simp)
    rw [hk _ (pf.lt y hy)] at a1
    rw [hk _ (pg.lt y hy)] at a2
    have := Option.some.inj a1
    have := Option.some.inj a2
    exact ⟨by omega, by omega⟩
  · apply List.ext_getElem?
    intro y
    by_cases hy : y < n
    · rw [hk y hy, PL_get hy]
    · rw [List.getElem?_eq_none (by rw [h.len]; omega), List.getElem?_eq_none (by rw [PL_len]; omega)]
theorem BM.bad (pf : IsP n f f') (pg : IsP n g g') (h0 : 0 < n) (h : BM n s f g F G D Q) {w d z e : Nat} {c : Bool} (hd : D[w]? = some (d : Int)) (hz : z = if c then f w else g w) (he : D[z]? = some (e : Int)) (hne : e ≠ if c then F d else G d) (k : Nat → Nat) : ¬ MapAt n m s f g F G k := by
  intro hm
  have jw : d = k w ∧ w < n := by
    rcases h.bd w _ hd with hb | ⟨z, hz, hj⟩
    · omega
    · have := jr_map pf pg h0 hm hj
      exact ⟨by omega, this.1⟩
  have jz : e = k z := by
    rcases h.bd z _ he with hb | ⟨z, hz, hj⟩
    · omega
    · have := jr_map pf pg h0 hm hj
      omega
  obtain ⟨c1, c2⟩ := hm.c w jw.2
  cases c with
  | true =>
    have hz : z = f w := hz
    have hne : e ≠ F d := hne
    rw [hz] at jz; exact hne (by rw [jz, c1, jw.1])
  | false =>
    have hz : z = g w := hz
    have hne : e ≠ G d := hne
    rw [hz] at jz; exact hne (by rw [jz, c2, jw.1])
end
end Go.PI
/- ONE NUMBER, repeated. -/
open Go.Proofs
namespace Go.PI
open IM
set_option maxRecDepth 20000
set_option maxHeartbeats 4000000
variable (S : FuncId → Option (List AV → Heap → Option (AV × Heap)))
theorem fn154 : ctx.fn 154 = some c154 := by kernel_rfl
theorem fn140 : ctx.fn 140 = some c140 := by kernel_rfl
abbrev pu (n : Int) : PV := .int .u64 n
theorem mul64_ct (hS : OldO S) {n : Nat} (hn : n ≤ 30) : Ct (ctx.plus S) 154 [pu 1, pu n] 0 fun r => r = .tup [pu 0, pu n] := by
  refine ct_of (hS 154 (by decide)) fn154 ?_
  refine ⟨rfl, _, rfl, ?_⟩
  refine ⟨_, rfl, ?_⟩
  refine ⟨rfl, _, rfl, ?_⟩
  refine ⟨_, rfl, ?_⟩
  refine ⟨rfl, _, rfl, ?_⟩
  refine ⟨rfl, _, rfl, ?_⟩
  refine ⟨_, rfl, ?_⟩
  refine ⟨rfl, _, rfl, ?_⟩
  refine ⟨rfl, _, rfl, ?_⟩
  refine ⟨_, rfl, ?_⟩
  refine ⟨rfl, _, rfl, ?_⟩
  refine ⟨rfl, _, rfl, ?_⟩
  refine ⟨rfl, _, rfl, ?_⟩
  refine ⟨rfl, _, rfl, ?_⟩
  refine ⟨_, rfl, ?_⟩
  refine ⟨rfl, _, rfl, ?_⟩
  refine ⟨rfl, _, rfl, ?_⟩
  refine endsq rfl ?_
  rcases (show n = 0 ∨ n = 1 ∨ n = 2 ∨ n = 3 ∨ n = 4 ∨ n = 5 ∨ n = 6 ∨ n = 7 ∨ n = 8 ∨ n = 9 ∨ n = 10 ∨ n = 11 ∨ n = 12 ∨ n = 13 ∨ n = 14 ∨ n = 15 ∨ n = 16 ∨ n = 17 ∨ n = 18 ∨ n = 19 ∨ n = 20 ∨ n = 21 ∨ n = 22 ∨ n = 23 ∨ n = 24 ∨ n = 25 ∨ n = 26 ∨ n = 27 ∨ n = 28 ∨ n = 29 ∨ n = 30 by omega) with rfl | rfl | rfl | rfl | rfl | rfl | rfl | rfl | rfl | rfl | rfl | rfl | rfl | rfl | rfl | rfl | rfl | rfl | rfl | rfl | rfl | rfl | rfl | rfl | rfl | rfl | rfl | rfl | rfl | rfl | rfl <;> rfl
theorem mul_ct (hS : OldO S) {n : Nat} (hn : n ≤ 30) : Ct (ctx.plus S) 140 [.int .u64 (1 : Nat), .int .u64 n] 0 fun r => r = .tup [.int .u64 (0 : Nat), .int .u64 n] := by
  refine ct_of (hS 140 (by decide)) fn140 ?_
  refine callq rfl (mul64_ct S hS hn) (by omega) ?_
  rintro _ rfl
  exact endsq rfl rfl
def rep2 (n m : Nat) (a : Int) : List Int := List.replicate m a ++ List.replicate (n - m) 0
theorem rep2_len {n m : Nat} {a : Int} (h : m ≤ n) : (rep2 n m a).length = n := by simp [rep2]; omega
theorem rep2_put {n m k : Nat} {a : Int} (h : m + k ≤ n) : pspl ((rep2 n m a).map pn) m ((List.replicate k a).map pn) = (rep2 n (m + k) a).map pn := by
  unfold pspl rep2
  rw [← List.map_take, ← List.map_drop, List.length_map, List.length_replicate, ← List.map_append, ← List.map_append]
  congr 1
  rw [List.take_left' (by simp), List.drop_append, List.length_replicate, List.drop_of_length_le (by simp), List.nil_append, List.drop_replicate, List.replicate_append_replicate, show n - m - (m + k - m) = n - (m + k) by omega]
theorem fn123 : ctx.fn 123 = some c123 := by kernel_rfl
theorem repeatI_cf (hS : OldO S) {a : Int} {n : Nat} (h0 : 0 < n) (hn : n ≤ 30) : Cfr (ctx.plus S) 123 [pIs [a], pn n] 2 fun ty m cp e cs => ty = 3 ∧ m = n ∧ cp = n ∧ e = 1 ∧ cs = (List.replicate n a).map pn := by
  refine cf_of (hS 123 (by decide)) fn123 ?_
  refine ⟨fun h => absurd h (by omega), fun _ => ?_⟩
  have hw : ∀ m : Nat, m ≤ 2000 → IntKind.u64.wrap (m : Int) = m := fun m hm => by
    show (m : Int) % 18446744073709551616 = m
    omega
  have hM2 : Ct (ctx.plus S) 140 [.int .u64 (IntKind.u64.wrap ([a].length : Nat)), .int .u64 (IntKind.u64.wrap (n : Nat))] 0 fun r => r = .tup [.int .u64 (0 : Nat), .int .u64 n] := by
    rw [hw n (by omega), hw [a].length (by show 1 ≤ 2000; omega)]
    exact mul_ct S hS hn
  refine callq rfl hM2 (by omega) ?_
  rintro _ rfl
  have hwi : IntKind.i64.wrap (n : Int) = n := wrap64 (by unfold In64; omega)
  refine ⟨rfl, .bool false, rfl, ?_⟩
  refine ⟨rfl, .bool false, by show some (AV.bool (decide ((n : Int) > 9223372036854775807))) = _; rw [decide_eq_false (by omega)], ?_⟩
  have mk : (1 ≤ (n : Int)) := by omega
  refine ⟨by omega, ⟨by rw [hwi]; omega, by rw [hwi]; omega, by rw [hwi]; omega⟩, _, int_zero, ?_⟩
  rw [hwi]
  have hrep : (List.replicate (n : Int).toNat (0 : Int)).length = n := by simp
  have e0 : List.replicate (n : Int).toNat (0 : Int) = rep2 n 0 a := by simp [rep2]
  have hmin : min 1 (n : Int).toNat = 1 := by omega
  refine ⟨rfl, _, _, _, rfl, ⟨by rw [List.length_map, hrep]; show 0 + min 1 (n : Int).toNat * 1 ≤ n; omega, by show min 1 (n : Int).toNat * 1 ≤ 1; omega, ?_⟩, (show pspl ((List.replicate (n : Int).toNat (0 : Int)).map pn) 0 (((pn a) :: []).take (min 1 (n : Int).toNat * 1)) = (rep2 n 1 a).map pn by rw [e0, hmin]; exact rep2_put (m := 0) (k := 1) (by omega)), ?_⟩
  · show pones (((pn a) :: []).take (min 1 (n : Int).toNat * 1)) = true
    rw [hmin]; rfl
  refine ⟨fun q st => ∃ (m : Nat) (T : List PV), st = ⟨T, [.live 3 ((rep2 n m a).map pn)], 1⟩ ∧ Gt T 48 [(7, .own 0 0 n n 1), (8, pn m)] ∧ q = n - m ∧ 1 ≤ m ∧ m ≤ n, ⟨_, ci ⟨1, _, rfl, ⟨rfl, by show PV.own 0 0 (n : Int).toNat (n : Int).toNat 1 = .own 0 0 n n 1; rw [Int.toNat_natCast], by show pn (min 1 (n : Int).toNat : Nat) = pn (1 : Nat); rw [hmin], trivial⟩, rfl, Nat.le_refl _, by omega⟩⟩, ?_⟩
  rintro _ st ⟨m, T, rfl, hT, rfl, hm, hmn⟩
  obtain ⟨J, rfl⟩ := gt_open hT
  clear hT
  refine ⟨fun hlt => ?_, fun hge => ?_⟩
  · refine ⟨by kernel_rfl, ?_⟩
    refine ⟨Nat.le_refl _, ⟨by omega, by omega⟩, m, by rw [if_neg (show n ≠ (m : Int).toNat by rw [Int.toNat_natCast]; omega)]; show 0 + m * 1 = m; omega, ?_⟩
    refine ⟨Nat.le_refl _, ⟨by omega, by omega⟩, 0, by rw [if_neg (by omega)]; rfl, ?_⟩
    have hrl := rep2_len (a := a) hmn
    obtain ⟨k, hk⟩ : ∃ k, k = min m (n - m) := ⟨_, rfl⟩
    have hml : ((rep2 n m a).map pn).length = n := by rw [List.length_map, hrl]
    refine ⟨_, _, (List.replicate m a).map pn, rfl, by rw [hml]; show 0 + m * 1 ≤ n; omega, ?_, ?_⟩
    · show (((rep2 n m a).map pn).drop 0).take (m * 1) = _
      rw [List.drop_zero, Nat.mul_one, ← List.map_take]
      unfold rep2
      rw [List.take_left' (by simp)]
    have htk : ((List.replicate m a).map pn).take (min m (n - m) * 1) = (List.replicate k a).map pn := by
      rw [Nat.mul_one, ← hk, ← List.map_take, List.take_replicate, Nat.min_eq_left (by omega)]
    refine ⟨_, _, (rep2 n (m + k) a).map pn, rfl, ⟨by rw [hml]; show m + min m (n - m) * 1 ≤ n; omega, by show min m (n - m) * 1 ≤ _; rw [List.length_map, List.length_replicate]; omega, by show pones (((List.replicate m a).map pn).take (min m (n - m) * 1)) = true; rw [htk]; exact ones_pn⟩, by show pspl _ m (((List.replicate m a).map pn).take (min m (n - m) * 1)) = _; rw [htk]; exact rep2_put (by omega), ?_⟩
    refine ⟨⟨by omega, by omega⟩, ?_⟩
    refine ⟨n - (m + k), by omega, ci ⟨m + k, _, rfl, ⟨rfl, rfl, by show pn ((m : Int) + (min m (n - m) : Nat)) = pn ((m + k : Nat) : Int); rw [← hk]; congr 1, trivial⟩, rfl, by omega, by omega⟩⟩
  · have hmn2 : m = n := by omega
    rw [hmn2]
    refine ⟨⟨_, _, _, _, _, _, rfl, rfl, rfl, rfl, rfl, ⟨rfl, by simp [rep2]⟩⟩⟩
end Go.PI
