/- Own work of the verifier: OgAc OgAd OgAe. -/
import Derived.Test.YtefajaiioljjoaaOhBH
set_option linter.all false
set_option exponentiation.threshold 3000
set_option linter.deprecated false
/- THE LABEL of the reference: the best of all numberings. -/
open Go.Proofs
namespace Go.PI
open IM
set_option maxRecDepth 10000
set_option maxHeartbeats 4000000
variable (S : FuncId → Option (List AV → Heap → Option (AV × Heap)))
def Rs (f g : Nat → Nat) (n s : Nat) : List Int := PL n (rn (es f g n s) (ei f g n s) f)
def Us (f g : Nat → Nat) (n s : Nat) : List Int := PL n (rn (es f g n s) (ei f g n s) g)
def Bf (f g : Nat → Nat) (n s t : Nat) : Prop := Lt (Rs f g n s ++ Us f g n s) (Rs f g n t ++ Us f g n t)
open Classical in
noncomputable def bst (f g : Nat → Nat) (n : Nat) : Nat → Nat
  | 0 => 0
  | i + 1 => if Bf f g n i (bst f g n i) then i else bst f g n i
open Classical in
theorem bst_yes {f g : Nat → Nat} {n i : Nat} (h : Bf f g n i (bst f g n i)) : bst f g n (i + 1) = i := by
  show (if _ then _ else _) = _
  rw [if_pos h]
open Classical in
theorem bst_no {f g : Nat → Nat} {n i : Nat} (h : ¬ Bf f g n i (bst f g n i)) : bst f g n (i + 1) = bst f g n i := by
  show (if _ then _ else _) = _
  rw [if_neg h]
theorem bst_one {f g : Nat → Nat} {n : Nat} : bst f g n 1 = 0 := bst_no lt_irr
theorem bst_lt {f g : Nat → Nat} {n : Nat} (h0 : 0 < n) : ∀ i, i ≤ n → bst f g n i < n
  | 0, _ => h0
  | i + 1, hi => by
    by_cases h : Bf f g n i (bst f g n i)
    · rw [bst_yes h]; omega
    · rw [bst_no h]; exact bst_lt h0 i (by omega)
theorem Rs_len {f g : Nat → Nat} {n s : Nat} : (Rs f g n s).length = n := PL_len
theorem Us_len {f g : Nat → Nat} {n s : Nat} : (Us f g n s).length = n := PL_len
theorem Rs_ne {f g : Nat → Nat} {n s : Nat} (h : 0 < n) : Rs f g n s ≠ [] := fun e => by
  have := Rs_len (f := f) (g := g) (n := n) (s := s)
  rw [e] at this
  simp at this
  omega
theorem fn29 : ctx.fn 29 = some c29 := by kernel_rfl
theorem rlabel_ct (hS : OldO S) {r u : List Int} {n : Nat} {f f' g g' : Nat → Nat} (ho : IsO r u n f f' g g') (hc : Conn n f g) :
    Ct (ctx.plus S) 29 [pO r u] 100000 fun w => w = .tup [pO (Rs f g n (bst f g n n)) (Us f g n (bst f g n n)), pIs (PL n (ei f g n (bst f g n n)))] := by
  have hn := ho.le
  have h0 := ho.pos
  have hrl := ho.l1.1
  have hp := fun s hs => es_perm (s := s) ho.pr ho.pu h0 hs hc
  refine ct_of (hS 29 (by decide)) fn29 ?_
  refine ⟨by omega, by omega, ?_⟩
  refine ⟨_, rfl, ?_⟩
  refine callq rfl (from_ct S hS ho h0 hc) (by omega) ?_
  rintro _ rfl
  refine ⟨fun m st => ∃ (i b : Nat) (T : List PV), st = ⟨T, [.live 24 [pIs r, pIs u], .live 24 [.lst 0 [], .lst 0 []]], b⟩ ∧ Gt T 30 [(1, .optr 0 0), (2, .optr 1 0), (4, pIs (PL n (ei f g n (bst f g n i)))), (5, pn i)] ∧ m = n - i ∧ 1 ≤ i ∧ i ≤ n ∧ b ≤ 1010 + 1500 * i, ⟨_, ci ⟨1, _, _, rfl, ⟨rfl, rfl, rfl, by rw [bst_one]; rfl, rfl, trivial⟩, rfl, Nat.le_refl _, by omega, by omega⟩⟩, ?_⟩
  rintro _ st ⟨i, b, T, rfl, hT, rfl, hi1, hi, hb⟩
  obtain ⟨J, rfl⟩ := gt_open hT
  clear hT
  refine ⟨_, rfl, ?_⟩
  refine callq rfl (size_ct S hS (r := r) (u := u)) (by omega) ?_
  rintro _ rfl
  refine ⟨fun hlt => ?_, fun hge => ?_⟩
  · have hin : i < n := by omega
    have hbl := bst_lt (f := f) (g := g) h0 i (by omega)
    refine ⟨_, rfl, ?_⟩
    refine callq rfl (from_ct S hS ho hin hc) (by omega) ?_
    rintro _ rfl
    refine ⟨by kernel_rfl, ?_⟩
    refine ⟨_, rfl, rfl, ?_⟩
    refine callq rfl (renumber_ct S hS ho (hp i hin)) (by omega) ?_
    rintro _ rfl
    refine ⟨_, rfl, rfl, ?_⟩
    refine callq rfl (renumber_ct S hS ho (hp _ hbl)) (by omega) ?_
    rintro _ rfl
    refine callq rfl (before_ct S hS (R := Rs f g n i) (U := Us f g n i) (R' := Rs f g n (bst f g n i)) (U' := Us f g n (bst f g n i)) (Rs_ne h0) (by rw [Rs_len, Rs_len]) (by rw [Us_len, Us_len]) (by rw [Rs_len]; omega) (by rw [Us_len]; omega)) (by omega) ?_
    rintro _ (⟨hB, rfl⟩ | ⟨hB, rfl⟩)
    · refine ⟨⟨by omega, by omega⟩, ?_⟩
      exact ⟨_, by omega, ci ⟨i + 1, _, _, rfl, ⟨rfl, rfl, rfl, by rw [bst_yes hB]; rfl, rfl, trivial⟩, rfl, by omega, by omega, by omega⟩⟩
    · refine ⟨⟨by omega, by omega⟩, ?_⟩
      exact ⟨_, by omega, ci ⟨i + 1, _, _, rfl, ⟨rfl, rfl, rfl, by rw [bst_no hB]; rfl, rfl, trivial⟩, rfl, by omega, by omega, by omega⟩⟩
  · have hin : i = n := by omega
    subst hin
    have hbl := bst_lt (f := f) (g := g) h0 i (by omega)
    refine ⟨_, rfl, ?_⟩
    refine callq rfl (renumber_ct S hS ho (hp _ hbl)) (by omega) ?_
    rintro _ rfl
    refine ⟨_, _, rfl, ⟨rfl, by decide, rfl⟩, _, rfl, _, rfl, ?_⟩
    refine ⟨_, rfl, ?_⟩
    exact endsq rfl rfl
end Go.PI
/- NUMBERINGS of the program: one square more; which of two lists comes first. -/
open Go.Proofs
namespace Go.PI
open IM
set_option maxRecDepth 10000
set_option maxHeartbeats 4000000
variable (S : FuncId → Option (List AV → Heap → Option (AV × Heap)))
theorem fn160 : ctx.fn 160 = some c160 := by kernel_rfl
theorem isNaN_ct (hS : OldO S) {x : Int} : Ct (ctx.plus S) 160 [pn x] 0 fun w => w = .bool false := by
  refine ct_of (hS 160 (by decide)) fn160 ?_
  exact ⟨fun h => absurd rfl h, fun _ => endq rfl rfl⟩
theorem fn152 : ctx.fn 152 = some c152 := by kernel_rfl
theorem compare_ct (hS : OldO S) {x y : Int} : Ct (ctx.plus S) 152 [pn x, pn y] 0 fun w => (x < y ∧ w = pn (-1)) ∨ (x = y ∧ w = pn 0) ∨ (y < x ∧ w = pn 1) := by
  refine ct_of (hS 152 (by decide)) fn152 ?_
  refine callq rfl (isNaN_ct S hS) (by omega) ?_
  rintro _ rfl
  refine callq rfl (isNaN_ct S hS) (by omega) ?_
  rintro _ rfl
  refine ⟨fun h => ?_, fun h => ?_⟩
  · exact endq rfl (.inl ⟨by omega, rfl⟩)
  refine ⟨fun h2 => ?_, fun h2 => ?_⟩
  · exact endq rfl (.inr (.inr ⟨by omega, rfl⟩))
  · exact endq rfl (.inr (.inl ⟨by omega, rfl⟩))
theorem fn138 : ctx.fn 138 = some c138 := by kernel_rfl
theorem compareL_ct (hS : OldO S) {xs ys : List Int} (hl : xs.length = ys.length) (hx : xs.length ≤ 1000000) : Ct (ctx.plus S) 138 [pIs xs, pIs ys] 0 fun w => ∃ c : Int, w = pn c ∧ (c < 0 ↔ Lt xs ys) := by
  refine ct_of (hS 138 (by decide)) fn138 ?_
  refine ⟨fun m s => ∃ (i : Nat) (T : List PV), s = ⟨T, [], 0⟩ ∧ Gt T 36 [(0, pIs xs), (1, pIs ys), (9, pIs xs), (10, pn xs.length), (11, pn i)] ∧ m = xs.length - i ∧ i ≤ xs.length ∧ Hid (Eqs xs ys i), ⟨_, ci ⟨0, _, rfl, ⟨rfl, rfl, rfl, rfl, rfl, rfl, trivial⟩, rfl, Nat.zero_le _, ⟨rfl⟩⟩⟩, ?_⟩
  rintro _ s ⟨i, T, rfl, hT, rfl, hi, hn⟩
  obtain ⟨J, rfl⟩ := gt_open hT
  clear hT
  refine ⟨fun hlt => ?_, fun hge => ?_⟩
  · obtain ⟨a, ha⟩ := xs_get (xs := xs) (i := i) (by omega)
    obtain ⟨b, hb⟩ := xs_get (xs := ys) (i := i) (by omega)
    refine ⟨⟨⟨by omega, by omega⟩, len_map_le (by omega)⟩, ?_⟩
    refine ⟨_, ld (at_map ha) (by show _ * 1 = i; omega), ?_⟩
    refine ⟨fun h => absurd h (by omega), fun _ => ?_⟩
    refine ⟨⟨⟨by omega, by omega⟩, len_map_le (by omega)⟩, ?_⟩
    refine ⟨_, ld (at_map hb) (by show _ * 1 = i; omega), ?_⟩
    refine callq rfl (compare_ct S hS) (by omega) ?_
    rintro _ (⟨h, rfl⟩ | ⟨h, rfl⟩ | ⟨h, rfl⟩)
    · refine ⟨fun _ => ?_, fun h => absurd h (by decide)⟩
      exact endq rfl ⟨-1, rfl, fun _ => (lt_at hn.h ha hb (by omega)).2 h, fun _ => by omega⟩
    · refine ⟨fun h => absurd rfl h, fun _ => ?_⟩
      refine ⟨⟨by omega, by omega⟩, ?_⟩
      exact ⟨_, by omega, ci ⟨i + 1, _, rfl, ⟨rfl, rfl, rfl, rfl, rfl, rfl, trivial⟩, rfl, by omega, ⟨eqs_next hn.h ha hb h⟩⟩⟩
    · refine ⟨fun _ => ?_, fun h => absurd h (by decide)⟩
      exact endq rfl ⟨1, rfl, fun h => by omega, fun hc => by have := (lt_at hn.h ha hb (by omega)).1 hc; omega⟩
  · have he : xs = ys := by
      have := hn.h; unfold Eqs at this
      rwa [List.take_of_length_le (by omega), List.take_of_length_le (by omega)] at this
    refine ⟨fun h => absurd h (by omega), fun _ => ?_⟩
    exact endq rfl ⟨0, rfl, fun h => by omega, fun hc => by rw [he] at hc; exact absurd hc lt_irr⟩
theorem Gr.smP {α : Type} {f : α → PV} {e : TypeId} {v : PV} {σ : List StB} {Xs : List α} (h : Gr f e v σ Xs) : Go.PI.smP v = true := by
  rcases h with ⟨rfl, h⟩ | ⟨j, ty, rfl, h⟩ | ⟨j, rfl, h⟩ <;> rfl
theorem apW_of {α : Type} {f : α → PV} {e : TypeId} {v : PV} {σ : List StB} {Xs : List α} {T : List PV} {ys : List Tmp} (h : Gr f e v σ Xs) (k : ∀ j, blkOf v = some j → apC T j ys) : apW T ys v := by
  rcases h with ⟨rfl, h⟩ | ⟨j, ty, rfl, h⟩ | ⟨j, rfl, h⟩
  · trivial
  · exact k j rfl
  · exact k j rfl
theorem fn108 : ctx.fn 108 = some c108 := by kernel_rfl
theorem with_cm (hS : OldO S) {σ : List StB} {vr vu : PV} {X Y : List Nat} {a b : Nat} (hr : Gr pnn 3 vr σ X) (hu : Gr pnn 3 vu σ Y) (hru : ∀ j, blkOf vr = some j → blkOf vu ≠ some j) (hl : X.length ≤ 1000) (hl2 : Y.length ≤ 1000) :
    Cm (ctx.plus S) 108 [.agg [vr, vu], .agg [pnn a, pnn b]] σ 10 fun w σ' => ∃ vr' vu', w = .agg [vr', vu'] ∧ Gr pnn 3 vr' σ' (X ++ [a]) ∧ Gr pnn 3 vu' σ' (Y ++ [b]) ∧ (∀ j, blkOf vr' = some j → blkOf vu' ≠ some j) ∧ σ.length ≤ σ'.length ∧
      (∀ i bl, blkOf vr ≠ some i → blkOf vu ≠ some i → σ[i]? = some bl → σ'[i]? = some bl) ∧ (∀ i, i < σ.length → blkOf vr' ≠ some i ∧ blkOf vu' ≠ some i) := by
  refine cm_of Oren (hS 108 (by decide)) fn108 fun c k0 hc => ?_
  refine ⟨by omega, by omega, ?_⟩
  refine ⟨by omega, ?_⟩
  refine ⟨by kernel_rfl, ?_⟩
  have l1 : ∀ x, (σ ++ [x]).length = σ.length + 1 := fun x => by simp
  refine ⟨vr, load_liv (push_old (push_old push_get)) rfl rfl, hr.smP, ?_⟩
  refine ⟨⟨by omega, by omega⟩, ?_⟩
  refine ⟨_, load_k rfl rfl (contOf_app push_cont) (show [pnn a, pnn b][0]? = some (pnn a) from rfl) (by rfl), rfl, ?_⟩
  refine ⟨by omega, part1 fzI ⟨[pnn a], rfl, ?_⟩⟩
  have hA : ∀ j, j < σ.length → σ.length ≠ j := fun j hj e => by omega
  have hA2 : ∀ i, i < σ.length + 2 → i ≠ σ.length + 2 := fun i hi => by omega
  have hB : ∀ x j, j < σ.length → (σ ++ [x]).length ≠ j := fun x j hj e => by rw [l1] at e; omega
  refine ⟨apW_of hr fun j hj => ⟨hA j (hr.blk hj), hB _ j (hr.blk hj), hA j (hr.blk hj), hB _ j (hr.blk hj), trivial⟩, ?_⟩
  have g0 : ∀ {i : Nat} {bl : StB}, σ[i]? = some bl → i < σ.length := fun h => (List.getElem?_eq_some_iff.1 h).1
  refine appG (f := pnn) (e := 3) (y := a) hr.push.push.push.push push_cont rfl rfl rfl rfl (by kernel_rfl) rfl rfl (by omega) (by omega) fun vr' σ4 hr' hk hb' => ?_
  have L3 : (σ ++ [StB.liv 24 [vr, vu]] ++ [StB.live 107 [pnn a, pnn b]] ++ [StB.liv 24 [.nils, .nils]] ++ [StB.live 3 [pnn a]]).length = σ.length + 4 := by simp
  have hb' : blkOf vr' = some (σ.length + 4) := by rw [← L3]; exact hb'
  have hl4 := hr'.blk hb'
  have nr : ∀ i, σ.length ≤ i → blkOf vr ≠ some i := fun i hi e => by have := hr.blk e; omega
  have nu : ∀ i, σ.length ≤ i → blkOf vu ≠ some i := fun i hi e => by have := hu.blk e; omega
  have k0' := hk σ.length _ (nr _ (by omega)) (push_old (push_old (push_old push_get)))
  have k1' := hk (σ.length + 1) _ (nr _ (by omega)) (push_old (push_old (by rw [← l1 (StB.liv 24 [vr, vu])]; exact push_get)))
  have k2' := hk (σ.length + 2) _ (nr _ (by omega)) (push_old (by rw [show σ.length + 2 = (σ ++ [StB.liv 24 [vr, vu]] ++ [StB.live 107 [pnn a, pnn b]]).length by simp]; exact push_get))
  have hu4 : Gr pnn 3 vu σ4 Y := hu.keep fun i bl hi hbl => hk i bl (fun e => hru i e hi) (push_old (push_old (push_old (push_old hbl))))
  refine ⟨vu, load_liv k0' rfl rfl, hu.smP, ?_⟩
  refine ⟨⟨by omega, by omega⟩, ?_⟩
  rw [l1]
  refine ⟨_, load_k rfl rfl (contOf_live k1') (show [pnn a, pnn b][1]? = some (pnn b) from rfl) (by rfl), rfl, ?_⟩
  refine ⟨by omega, part1 fzI ⟨[pnn b], rfl, ?_⟩⟩
  have L4 : (σ4 ++ [StB.live 3 [pnn b]]).length = σ4.length + 1 := by simp
  refine ⟨apW_of hu4 fun j hj => ?_, ?_⟩
  · have hjl := hu.blk hj
    exact ⟨hA j hjl, fun e => by omega, hA j hjl, fun e => by omega, trivial⟩
  refine appG (f := pnn) (e := 3) (y := b) hu4.push push_cont rfl rfl rfl rfl (by kernel_rfl) rfl rfl (by omega) (by omega) fun vu' σ5 hu' hk5 hb5 => ?_
  rw [L4] at hb5
  have hl5 := hu'.blk hb5
  have k2'' := hk5 (σ.length + 2) _ (nu _ (by omega)) (push_old k2')
  have L2 : ∀ x y, (σ ++ [x] ++ [y]).length = σ.length + 2 := fun x y => by simp
  have hr5 : Gr pnn 3 vr' σ5 (X ++ [a]) := hr'.keep fun i bl hi hbl => by
    rw [hb'] at hi
    have := Option.some.inj hi
    exact hk5 i bl (nu i (by omega)) (push_old hbl)
  have l5 : σ.length + 2 < σ5.length := (List.getElem?_eq_some_iff.1 k2'').1
  have kp : ∀ q : Nat, q = σ.length + 2 → ∀ x : StB, (∀ i bl, blkOf vr ≠ some i → blkOf vu ≠ some i → σ[i]? = some bl → (σ5.set q x)[i]? = some bl) := fun q hq x i bl h1 h2 h3 => by
    have hi := g0 h3
    rw [List.getElem?_set_ne (by omega)]
    exact hk5 i bl h2 (push_old (hk i bl h1 (push_old (push_old (push_old (push_old h3))))))
  have fin : ∀ q : Nat, q = σ.length + 2 → ∀ x : StB, Gr pnn 3 vr' (σ5.set q x) (X ++ [a]) ∧ Gr pnn 3 vu' (σ5.set q x) (Y ++ [b]) ∧ (∀ j, blkOf vr' = some j → blkOf vu' ≠ some j) ∧ σ.length ≤ (σ5.set q x).length ∧
      (∀ i bl, blkOf vr ≠ some i → blkOf vu ≠ some i → σ[i]? = some bl → (σ5.set q x)[i]? = some bl) ∧ (∀ i, i < σ.length → blkOf vr' ≠ some i ∧ blkOf vu' ≠ some i) := fun q hq x => by
    refine ⟨hr5.keep fun i bl hi hbl => ?_, hu'.keep fun i bl hi hbl => ?_, fun j h1 h2 => ?_, by rw [List.length_set]; omega, kp q hq x, fun i hi => ⟨fun e => ?_, fun e => ?_⟩⟩
    · rw [hb'] at hi
      have := Option.some.inj hi
      rw [List.getElem?_set_ne (by omega)]; exact hbl
    · rw [hb5] at hi
      have := Option.some.inj hi
      rw [List.getElem?_set_ne (by omega)]; exact hbl
    · rw [hb'] at h1
      rw [hb5] at h2
      have := Option.some.inj h1
      have := Option.some.inj h2
      omega
    · rw [hb'] at e
      have := Option.some.inj e
      omega
    · rw [hb5] at e
      have := Option.some.inj e
      omega
  obtain ⟨j1, t1, -, e1⟩ := hr'.shape (by simp)
  obtain ⟨j2, t2, -, e2⟩ := hu'.shape (by simp)
  rcases e1 with rfl | rfl <;> rcases e2 with rfl | rfl
  all_goals
    refine ⟨_, rfl, ?_⟩
    rw [L2]
    refine ⟨⟨hA2 _ (by omega), hA2 _ (by omega), hA2 _ (by omega), hA2 _ (by omega), trivial⟩, ?_⟩
    refine ⟨_, _, k2'', ⟨rfl, by decide, rfl⟩, _, rfl, _, rfl, ?_⟩
    refine ⟨_, load_liv (List.getElem?_set_self l5) rfl rfl, ?_⟩
    obtain ⟨f1, f2, f3, f4, f5, f6⟩ := fin _ rfl _
    exact endm [] (by dsimp only; omega) ⟨_, _, rfl, f1, f2, f3, f4, f5, f6⟩
end Go.PI
/- A NUMBERING and what is built by it: what the store holds. -/
open Go.Proofs
namespace Go.PI
open IM
set_option maxRecDepth 10000
set_option maxHeartbeats 4000000
def Xi (f g : Nat → Nat) (n s i : Nat) : List Nat := (List.range i).map (rn (es f g n s) (ei f g n s) f)
def Yi (f g : Nat → Nat) (n s i : Nat) : List Nat := (List.range i).map (rn (es f g n s) (ei f g n s) g)
theorem Xi_succ {f g : Nat → Nat} {n s i : Nat} : Xi f g n s (i + 1) = Xi f g n s i ++ [rn (es f g n s) (ei f g n s) f i] := by unfold Xi; rw [List.range_succ, List.map_append]; rfl
theorem Yi_succ {f g : Nat → Nat} {n s i : Nat} : Yi f g n s (i + 1) = Yi f g n s i ++ [rn (es f g n s) (ei f g n s) g i] := by unfold Yi; rw [List.range_succ, List.map_append]; rfl
theorem Xi_len {f g : Nat → Nat} {n s i : Nat} : (Xi f g n s i).length = i := by simp [Xi]
theorem Yi_len {f g : Nat → Nat} {n s i : Nat} : (Yi f g n s i).length = i := by simp [Yi]
theorem Xi_full {f g : Nat → Nat} {n s : Nat} : NL (Xi f g n s n) = Rs f g n s := by unfold NL Xi Rs PL; rw [List.map_map]; rfl
theorem Yi_full {f g : Nat → Nat} {n s : Nat} : NL (Yi f g n s n) = Us f g n s := by unfold NL Yi Us PL; rw [List.map_map]; rfl
/-- a growing slice of our own, apart from what else there is -/
structure Own1 (σ0 σ : List StB) (L4 L5 L6 : Nat) (w v : PV) : Prop where
  out : ∀ q, blkOf v = some q → σ0.length ≤ q ∧ q < σ.length ∧ q ≠ L4 ∧ q ≠ L5 ∧ q ≠ L6 ∧ blkOf w ≠ some q
structure ML (σ0 σ : List StB) (j m : Nat) (v0 v vr vu : PV) (L4 L5 L6 : Nat) (P4 P5 : List PV) (xs X Y : List Nat) : Prop where
  jl : j < σ0.length
  ml : m < σ0.length
  l4 : σ0.length ≤ L4
  l5 : L4 < L5
  l6 : L5 < L6
  c4 : σ[L4]? = some (.liv 24 P4)
  c5 : σ[L5]? = some (.liv 24 P5)
  c6 : σ[L6]? = some (.liv 24 [vr, vu])
  num : Num σ j m v xs
  keep : ∀ (i : Nat) (b : StB), i ≠ j → i ≠ m → blkOf v0 ≠ some i → σ0[i]? = some b → σ[i]? = some b
  len : σ0.length ≤ σ.length
  old : ∀ i, i < σ0.length → blkOf v0 ≠ some i → blkOf v ≠ some i
  b4 : blkOf v ≠ some L4
  b5 : blkOf v ≠ some L5
  b6 : blkOf v ≠ some L6
  gr : Gr pnn 3 vr σ X
  gu : Gr pnn 3 vu σ Y
  sep : ∀ q, blkOf vr = some q → blkOf vu ≠ some q
  o1 : Own1 σ0 σ L4 L5 L6 v vr
  o2 : Own1 σ0 σ L4 L5 L6 v vu
theorem ML.lt6 {σ0 σ : List StB} {j m : Nat} {v0 v vr vu : PV} {L4 L5 L6 : Nat} {P4 P5 : List PV} {xs X Y : List Nat} (h : ML σ0 σ j m v0 v vr vu L4 L5 L6 P4 P5 xs X Y) : L6 < σ.length := (List.getElem?_eq_some_iff.1 h.c6).1
/-- one square more in the numbering -/
theorem ML.around {σ0 σ σ2 : List StB} {j m : Nat} {v0 v v2 vr vu : PV} {L4 L5 L6 : Nat} {P4 P5 : List PV} {xs xs2 X Y : List Nat} (h : ML σ0 σ j m v0 v vr vu L4 L5 L6 P4 P5 xs X Y) (e1 : Num σ2 j m v2 xs2) (e2 : NF σ σ2 j m v v2) : ML σ0 σ2 j m v0 v2 vr vu L4 L5 L6 P4 P5 xs2 X Y := by
  have hl6 := h.lt6
  have a1 := h.jl
  have a2 := h.ml
  have a3 := h.l4
  have a4 := h.l5
  have a5 := h.l6
  have hlen := h.len
  have ow : ∀ {w : PV}, Own1 σ0 σ L4 L5 L6 v w → Own1 σ0 σ2 L4 L5 L6 v2 w := fun {w} o => ⟨fun q hq => by
    obtain ⟨b1, b2, b3, b4, b5, b6⟩ := o.out q hq
    exact ⟨b1, Nat.lt_of_lt_of_le b2 e2.len, b3, b4, b5, e2.blk q b2 b6⟩⟩
  have kg : ∀ {w : PV} {Z : List Nat}, Own1 σ0 σ L4 L5 L6 v w → Gr pnn 3 w σ Z → Gr pnn 3 w σ2 Z := fun {w Z} o g => g.keep fun i b hi hb => by
    obtain ⟨b1, b2, b3, b4, b5, b6⟩ := o.out i hi
    exact e2.keep i b (by omega) (by omega) b6 hb
  exact ⟨a1, a2, a3, a4, a5, e2.keep L4 _ (by omega) (by omega) h.b4 h.c4, e2.keep L5 _ (by omega) (by omega) h.b5 h.c5, e2.keep L6 _ (by omega) (by omega) h.b6 h.c6, e1,
    fun i b h1 h2 h3 h4 => e2.keep i b h1 h2 (h.old i (List.getElem?_eq_some_iff.1 h4).1 h3) (h.keep i b h1 h2 h3 h4), Nat.le_trans hlen e2.len,
    fun i hi h3 => e2.blk i (Nat.lt_of_lt_of_le hi hlen) (h.old i hi h3), e2.blk L4 (by omega) h.b4, e2.blk L5 (by omega) h.b5, e2.blk L6 hl6 h.b6, kg h.o1 h.gr, kg h.o2 h.gu, h.sep, ow h.o1, ow h.o2⟩
theorem ML.push {σ0 σ : List StB} {j m : Nat} {v0 v vr vu : PV} {L4 L5 L6 : Nat} {P4 P5 : List PV} {xs X Y : List Nat} {b : StB} (h : ML σ0 σ j m v0 v vr vu L4 L5 L6 P4 P5 xs X Y) : ML σ0 (σ ++ [b]) j m v0 v vr vu L4 L5 L6 P4 P5 xs X Y := by
  have ow : ∀ {w : PV}, Own1 σ0 σ L4 L5 L6 v w → Own1 σ0 (σ ++ [b]) L4 L5 L6 v w := fun {w} o => ⟨fun q hq => by
    obtain ⟨b1, b2, b3⟩ := o.out q hq
    exact ⟨b1, by rw [List.length_append]; omega, b3⟩⟩
  exact ⟨h.jl, h.ml, h.l4, h.l5, h.l6, push_old h.c4, push_old h.c5, push_old h.c6, h.num.push, fun i x h1 h2 h3 h4 => push_old (h.keep i x h1 h2 h3 h4), by rw [List.length_append]; have := h.len; omega, h.old, h.b4, h.b5, h.b6, h.gr.push, h.gu.push, h.sep, ow h.o1, ow h.o2⟩
/-- one place more in what is built -/
theorem ML.with {σ0 σ σ3 : List StB} {j m : Nat} {v0 v vr vu vr' vu' : PV} {L4 L5 L6 : Nat} {P4 P5 : List PV} {xs X Y X' Y' : List Nat} (h : ML σ0 σ j m v0 v vr vu L4 L5 L6 P4 P5 xs X Y)
    (w1 : Gr pnn 3 vr' σ3 X') (w2 : Gr pnn 3 vu' σ3 Y') (w3 : ∀ q, blkOf vr' = some q → blkOf vu' ≠ some q) (w4 : σ.length ≤ σ3.length) (w5 : ∀ i bl, blkOf vr ≠ some i → blkOf vu ≠ some i → σ[i]? = some bl → σ3[i]? = some bl) (w6 : ∀ i, i < σ.length → blkOf vr' ≠ some i ∧ blkOf vu' ≠ some i) :
    ML σ0 (σ3.set L6 (.liv 24 [vr', vu'])) j m v0 v vr' vu' L4 L5 L6 P4 P5 xs X' Y' := by
  have hl6 := h.lt6
  have a1 := h.jl
  have a2 := h.ml
  have a3 := h.l4
  have a4 := h.l5
  have a5 := h.l6
  have hlen := h.len
  have hvb : ∀ q, blkOf v = some q → q < σ.length := fun q hq => h.num.gr.blk hq
  have lo : ∀ i, i < σ0.length → blkOf vr ≠ some i ∧ blkOf vu ≠ some i := fun i hi => ⟨fun e => by have := (h.o1.out i e).1; omega, fun e => by have := (h.o2.out i e).1; omega⟩
  have n4 : blkOf vr ≠ some L4 ∧ blkOf vu ≠ some L4 := ⟨fun e => (h.o1.out _ e).2.2.1 rfl, fun e => (h.o2.out _ e).2.2.1 rfl⟩
  have n5 : blkOf vr ≠ some L5 ∧ blkOf vu ≠ some L5 := ⟨fun e => (h.o1.out _ e).2.2.2.1 rfl, fun e => (h.o2.out _ e).2.2.2.1 rfl⟩
  have nv : ∀ q, blkOf v = some q → blkOf vr ≠ some q ∧ blkOf vu ≠ some q := fun q hq => ⟨fun e => (h.o1.out _ e).2.2.2.2.2 hq, fun e => (h.o2.out _ e).2.2.2.2.2 hq⟩
  have ow : ∀ {w : PV} {Z : List Nat}, Gr pnn 3 w σ3 Z → (∀ i, i < σ.length → blkOf w ≠ some i) → Own1 σ0 (σ3.set L6 (.liv 24 [vr', vu'])) L4 L5 L6 v w := fun {w Z} g hw => ⟨fun q hq => by
    have hge : ¬ q < σ.length := fun hlt => hw q hlt hq
    have := g.blk hq
    exact ⟨by omega, by rw [List.length_set]; omega, by omega, by omega, by omega, fun e => hge (hvb q e)⟩⟩
  have kg : ∀ {w : PV} {Z : List Nat}, Gr pnn 3 w σ3 Z → (∀ i, i < σ.length → blkOf w ≠ some i) → Gr pnn 3 w (σ3.set L6 (.liv 24 [vr', vu'])) Z := fun {w Z} g hw => g.keep fun i b hi hb => by
    rw [List.getElem?_set_ne (fun e => hw L6 hl6 (by rw [e]; exact hi))]; exact hb
  have w6a := fun i hi => (w6 i hi).1
  have w6b := fun i hi => (w6 i hi).2
  refine ⟨a1, a2, a3, a4, a5, ?_, ?_, List.getElem?_set_self (by omega), ?_, fun i b h1 h2 h3 h4 => ?_, by rw [List.length_set]; omega, h.old, h.b4, h.b5, h.b6, kg w1 w6a, kg w2 w6b, w3, ow w1 w6a, ow w2 w6b⟩
  · rw [List.getElem?_set_ne (by omega)]; exact w5 _ _ n4.1 n4.2 h.c4
  · rw [List.getElem?_set_ne (by omega)]; exact w5 _ _ n5.1 n5.2 h.c5
  · refine (h.num.keep fun i b hi hb => w5 i b ?_ ?_ hb).set (by omega) (by omega) h.b6
    · rcases hi with rfl | rfl | hi
      · exact (lo _ a1).1
      · exact (lo _ a2).1
      · exact (nv i hi).1
    · rcases hi with rfl | rfl | hi
      · exact (lo _ a1).2
      · exact (lo _ a2).2
      · exact (nv i hi).2
  · have hi := (List.getElem?_eq_some_iff.1 h4).1
    rw [List.getElem?_set_ne (by omega)]
    exact w5 i b (lo i hi).1 (lo i hi).2 (h.keep i b h1 h2 h3 h4)
/-- whether what is built comes first, so far -/
def LS (R B : List Int) (i : Nat) (lb : Bool) : Prop := (lb = false ∧ B ≠ [] ∧ R.take i = B.take i) ∨ (lb = true ∧ (B = [] ∨ Lt R B))
theorem LS.eq {R B : List Int} {i : Nat} {a b : Int} (h : LS R B i false) (ha : R[i]? = some a) (hb : B[i]? = some b) (e : a = b) : LS R B (i + 1) false := by
  rcases h with ⟨-, h1, h2⟩ | ⟨h, -⟩
  · exact .inl ⟨rfl, h1, by rw [take_snoc ha, take_snoc hb, h2, e]⟩
  · cases h
theorem LS.lt {R B : List Int} {i : Nat} {a b : Int} (h : LS R B i false) (ha : R[i]? = some a) (hb : B[i]? = some b) (e : a < b) : LS R B (i + 1) true := by
  rcases h with ⟨-, h1, h2⟩ | ⟨h, -⟩
  · exact .inr ⟨rfl, .inr ((lt_at h2 ha hb (by omega)).2 e)⟩
  · cases h
theorem LS.gt {R B : List Int} {i : Nat} {a b : Int} (h : LS R B i false) (ha : R[i]? = some a) (hb : B[i]? = some b) (e : b < a) : B ≠ [] ∧ ¬ Lt R B ∧ R ≠ B := by
  rcases h with ⟨-, h1, h2⟩ | ⟨h, -⟩
  · exact ⟨h1, fun hc => by have := (lt_at h2 ha hb (by omega)).1 hc; omega, fun e2 => by rw [e2, hb] at ha; have := Option.some.inj ha; omega⟩
  · cases h
theorem LS.tr {R B : List Int} {i : Nat} (h : LS R B i true) : LS R B (i + 1) true := by
  rcases h with ⟨h, -⟩ | h
  · cases h
  · exact .inr h
end Go.PI
