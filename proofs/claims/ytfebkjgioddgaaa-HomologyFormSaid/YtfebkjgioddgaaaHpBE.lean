/- Own work of the verifier: HoR HoS. -/
import Derived.Test.YtfebkjgioddgaaaHpBD
import Derived.Test.YtfebkjgioddgaaaHpBB
set_option linter.all false
set_option exponentiation.threshold 3000
set_option linter.deprecated false
/- BOUNDARIES OF SQUARES and products, of the program. -/
open Go.Proofs
namespace Go.PI
open IM
set_option maxRecDepth 10000
set_option maxHeartbeats 4000000
variable (S : FuncId → Option (List AV → Heap → Option (AV × Heap)))
variable {n : Nat} {c c' f f' g g' : Nat → Nat}
theorem fn60 : ctx.fn 60 = some c60 := by kernel_rfl
theorem dot_ct (hS : OldO S) {m : Nat} {A B : Nat → Int} {x y : Int} (hm : m ≤ 100) (hA : ∀ i, i < m → -x ≤ A i ∧ A i ≤ x) (hB : ∀ i, i < m → -y ≤ B i ∧ B i ≤ y) (hx : x ≤ 1000000) (hy : 0 ≤ y ∧ y ≤ 10000000000) : Ct (ctx.plus S) 60 [pIs (FL m A), pIs (FL m B)] 0 fun w => w = pn (sumN (fun i => A i * B i) m) := by
  have lA : (FL m A).length = m := FL_len
  have lB : (FL m B).length = m := FL_len
  have hxy : ∀ i, i < m → -(1000000 * 10000000000) ≤ A i * B i ∧ A i * B i ≤ 1000000 * 10000000000 := fun i hi => by
    have h1 := hA i hi
    have h2 := hB i hi
    have h3 : (A i).natAbs ≤ 1000000 := by omega
    have h4 : (B i).natAbs ≤ 10000000000 := by omega
    have h5 : (A i * B i).natAbs ≤ 1000000 * 10000000000 := by rw [Int.natAbs_mul]; exact Nat.mul_le_mul h3 h4
    omega
  refine ct_of (hS 60 (by decide)) fn60 ?_
  refine ⟨fun q s => ∃ (i : Nat) (T : List PV), s = ⟨T, [], 0⟩ ∧ Gt T 25 [(1, pIs (FL m B)), (5, pn (sumN (fun i => A i * B i) i)), (8, pIs (FL m A)), (9, pn (FL m A).length), (10, pn i)] ∧ q = m - i ∧ i ≤ m, ⟨_, ci ⟨0, _, rfl, ⟨rfl, rfl, rfl, rfl, rfl, rfl, trivial⟩, rfl, Nat.zero_le _⟩⟩, ?_⟩
  rintro _ s ⟨i, T, rfl, hT, rfl, hi⟩
  obtain ⟨J, rfl⟩ := gt_open hT
  clear hT
  refine ⟨fun hlt => ?_, fun hge => ?_⟩
  · have him : i < m := by omega
    have hs := sumN_le (h := fun i => A i * B i) (k := i) (b := 1000000 * 10000000000) fun j hj => hxy j (by omega)
    have h1 := hxy i him
    refine ⟨⟨⟨by omega, by omega⟩, len_map_le (by omega)⟩, ?_⟩
    refine ⟨_, ld (at_map (FL_get him)) (by show _ * 1 = i; omega), ?_⟩
    refine ⟨⟨⟨by omega, by omega⟩, len_map_le (by omega)⟩, ?_⟩
    refine ⟨_, ld (at_map (FL_get him)) (by show _ * 1 = i; omega), ?_⟩
    refine ⟨⟨by omega, by omega⟩, ?_⟩
    refine ⟨⟨by omega, by omega⟩, ?_⟩
    refine ⟨⟨by omega, by omega⟩, ?_⟩
    exact ⟨_, by omega, ci ⟨i + 1, _, rfl, ⟨rfl, rfl, rfl, rfl, rfl, rfl, trivial⟩, rfl, by omega⟩⟩
  · have hie : i = m := by omega
    rw [hie]
    exact endq rfl rfl
theorem fn52 : ctx.fn 52 = some c52 := by kernel_rfl
theorem around_ct (hS : OldO S) (hn : n ≤ 60) {i : Int} {V : PV} {rest : List PV} :
    Ct (ctx.plus S) 52 [.lptr (V :: pn n :: .lst (2 * n) (FC (edg n c f f' g g') (2 * n)) :: rest), pn i] 200 fun w => w = pIs (FL (2 * n) fun e => ind ((lft n f' e : Int) = i) - ind ((rgt n g' e : Int) = i)) := by
  have hEl : (FC (edg n c f f' g g') (2 * n)).length = 4 * (2 * n) := FC_len edg_len
  refine ct_of (hS 52 (by decide)) fn52 ?_
  refine ⟨(by show 2 ≤ rest.length + 3; omega), ?_⟩
  refine ⟨_, rfl, ?_⟩
  refine ⟨by omega, ⟨by omega, by omega, by omega⟩, _, FL_rep, ?_⟩
  refine ⟨(by show 2 ≤ rest.length + 3; omega), ?_⟩
  refine ⟨_, rfl, ?_⟩
  refine ⟨fun m s => ∃ (k : Nat) (h : Nat → Int) (σ : List StB) (T : List PV), s = ⟨T, σ, 1 + k⟩ ∧ Gt T 46 [(1, pn i), (5, .own 0 0 (2 * n) (2 * n) 1), (17, .lst (2 * n) (FC (edg n c f f' g g') (2 * n))), (18, pn (2 * n : Nat)), (19, pn k)] ∧ m = 2 * n - k ∧ k ≤ 2 * n ∧ Hid (σ[0]? = some (.live 3 ((FL (2 * n) h).map pn)) ∧ (∀ e, e < k → h e = ind ((lft n f' e : Int) = i) - ind ((rgt n g' e : Int) = i)) ∧ ∀ e, k ≤ e → h e = 0), ⟨_, ci ⟨0, fun _ => 0, _, _, rfl, ⟨rfl, rfl, rfl, rfl, rfl, rfl, trivial⟩, rfl, Nat.zero_le _, ⟨rfl, fun e he => by omega, fun _ _ => rfl⟩⟩⟩, ?_⟩
  rintro _ s ⟨k, h, σ, T, rfl, hT, rfl, hk, hh⟩
  obtain ⟨J, rfl⟩ := gt_open hT
  clear hT
  obtain ⟨h0, h1, h2⟩ := hh.h
  clear hh
  refine ⟨fun hlt => ?_, fun hge => ?_⟩
  · have hkl : k < 2 * n := by omega
    have hl0 := (List.getElem?_eq_some_iff.1 h0).1
    have hat : ∀ q, q = 4 * k → partP t117 ((FC (edg n c f f' g g') (2 * n)).drop q) 0 = some (.agg [pn (bgn n c k), pn (enn n c f g k), pn (lft n f' k), pn (rgt n g' k)]) := fun q hq => by
      show (if 0 + 4 ≤ ((FC (edg n c f f' g g') (2 * n)).drop q).length then some (PV.agg ((((FC (edg n c f f' g g') (2 * n)).drop q).drop 0).take 4)) else none) = _
      rw [if_pos (by rw [List.length_drop, hEl]; omega), List.drop_zero, FC_at edg_len hkl hq, edg_eq]
    refine ⟨⟨⟨by omega, by omega⟩, by rw [hEl]; show k * 4 ≤ _; omega⟩, ?_⟩
    refine ⟨_, hat _ (by show _ * 4 = _; omega), ?_⟩
    refine ⟨by omega, ?_⟩
    refine ⟨_, _, push_get, ⟨rfl, by decide, rfl⟩, _, rfl, _, push_set, ?_⟩
    have p0 : ∀ x, (σ ++ [x])[0]? = some (StB.live 3 ((FL (2 * n) h).map pn)) := fun x => push_old h0
    have hk0 : h k = 0 := h2 k (Nat.le_refl _)
    refine ⟨_, load_k rfl rfl push_cont (show [pn (bgn n c k), pn (enn n c f g k), pn (lft n f' k), pn (rgt n g' k)][2]? = some (pn (lft n f' k)) from rfl) rfl, ?_⟩
    have fin1 : ∀ (x y : Int), x = ind ((lft n f' k : Int) = i) → y = ind ((rgt n g' k : Int) = i) → ∀ e, e < k + 1 → (fun e => if e = k then x - y else h e) e = ind ((lft n f' e : Int) = i) - ind ((rgt n g' e : Int) = i) := fun x y hx hy e he => by
      show (if e = k then _ else _) = _
      by_cases ek : e = k
      · rw [if_pos ek, hx, hy, ek]
      · rw [if_neg ek]; exact h1 e (by omega)
    have fin2 : ∀ (x y : Int) e, k + 1 ≤ e → (fun e => if e = k then x - y else h e) e = 0 := fun x y e he => by
      show (if e = k then _ else _) = _
      rw [if_neg (by omega)]; exact h2 e (by omega)
    have c3 : ∀ x y, contOf ((σ ++ [StB.live 117 x]).set 0 y) σ.length = some (117, x) := fun x y => by
      unfold contOf
      rw [List.getElem?_set_ne (by omega), push_get]
      rfl
    have g2 : ∀ x y, ((σ ++ [x]).set 0 y)[0]? = some y := fun x y => List.getElem?_set_self (by rw [List.length_append]; omega)
    refine ⟨fun h3 => ?_, fun h3 => ?_⟩
    · refine ⟨⟨by omega, by omega⟩, ?_⟩
      refine ⟨_, load_k rfl rfl (contOf_live (p0 _)) (at_map (FL_get hkl)) (by show 0 + k * 1 = k; omega), ?_⟩
      refine ⟨by rw [hk0]; exact ⟨by omega, by omega⟩, ?_⟩
      refine ⟨⟨by omega, by omega⟩, ?_⟩
      refine ⟨_, _, p0 _, ⟨rfl, by rw [List.length_map, FL_len]; show 0 + k * 1 + 1 ≤ _; omega, rfl⟩, _, FL_put (i := k) (by show 0 + k * 1 = k; omega) hkl, _, rfl, ?_⟩
      refine ⟨_, load_k rfl rfl (c3 _ _) (show [pn (bgn n c k), pn (enn n c f g k), pn (lft n f' k), pn (rgt n g' k)][3]? = some (pn (rgt n g' k)) from rfl) rfl, ?_⟩
      refine ⟨fun h4 => ?_, fun h4 => ?_⟩
      · refine ⟨⟨by omega, by omega⟩, ?_⟩
        refine ⟨_, load_k rfl rfl (contOf_live (g2 _ _)) (at_map (FL_get hkl)) (by show 0 + k * 1 = k; omega), ?_⟩
        refine ⟨by rw [if_pos rfl, hk0]; exact ⟨by omega, by omega⟩, ?_⟩
        refine ⟨⟨by omega, by omega⟩, ?_⟩
        refine ⟨_, _, (g2 _ _), ⟨rfl, by rw [List.length_map, FL_len]; show 0 + k * 1 + 1 ≤ _; omega, rfl⟩, _, FL_put (i := k) (by show 0 + k * 1 = k; omega) hkl, _, rfl, ?_⟩
        refine ⟨⟨by omega, by omega⟩, ?_⟩
        exact ⟨_, by omega, ci ⟨k + 1, fun e => if e = k then 1 - 1 else h e, _, _, rfl, ⟨rfl, rfl, rfl, rfl, rfl, rfl, trivial⟩, rfl, by omega, ⟨(by rw [List.getElem?_set_self (by first | omega | (rw [List.length_append]; omega) | (rw [List.length_set, List.length_append]; omega))]; congr 3; exact FL_eq fun e he => by by_cases ek : e = k; rw [if_pos ek, if_pos ek, if_pos rfl, hk0]; rfl; rw [if_neg ek, if_neg ek, if_neg ek]), fin1 1 1 (by unfold ind; rw [if_pos h3]) (by unfold ind; rw [if_pos h4]), fin2 1 1⟩⟩⟩
      · refine ⟨⟨by omega, by omega⟩, ?_⟩
        exact ⟨_, by omega, ci ⟨k + 1, fun e => if e = k then 1 - 0 else h e, _, _, rfl, ⟨rfl, rfl, rfl, rfl, rfl, rfl, trivial⟩, rfl, by omega, ⟨(by rw [(g2 _ _)]; congr 3; exact FL_eq fun e he => by by_cases ek : e = k; rw [if_pos ek, if_pos ek, hk0]; rfl; rw [if_neg ek, if_neg ek]), fin1 1 0 (by unfold ind; rw [if_pos h3]) (by unfold ind; rw [if_neg h4]), fin2 1 0⟩⟩⟩
    · skip
      refine ⟨_, load_k rfl rfl push_cont (show [pn (bgn n c k), pn (enn n c f g k), pn (lft n f' k), pn (rgt n g' k)][3]? = some (pn (rgt n g' k)) from rfl) rfl, ?_⟩
      refine ⟨fun h4 => ?_, fun h4 => ?_⟩
      · refine ⟨⟨by omega, by omega⟩, ?_⟩
        refine ⟨_, load_k rfl rfl (contOf_live (p0 _)) (at_map (FL_get hkl)) (by show 0 + k * 1 = k; omega), ?_⟩
        refine ⟨by rw [hk0]; exact ⟨by omega, by omega⟩, ?_⟩
        refine ⟨⟨by omega, by omega⟩, ?_⟩
        refine ⟨_, _, (p0 _), ⟨rfl, by rw [List.length_map, FL_len]; show 0 + k * 1 + 1 ≤ _; omega, rfl⟩, _, FL_put (i := k) (by show 0 + k * 1 = k; omega) hkl, _, rfl, ?_⟩
        refine ⟨⟨by omega, by omega⟩, ?_⟩
        exact ⟨_, by omega, ci ⟨k + 1, fun e => if e = k then 0 - 1 else h e, _, _, rfl, ⟨rfl, rfl, rfl, rfl, rfl, rfl, trivial⟩, rfl, by omega, ⟨(by rw [List.getElem?_set_self (by first | omega | (rw [List.length_append]; omega) | (rw [List.length_set, List.length_append]; omega))]; congr 3; exact FL_eq fun e he => by by_cases ek : e = k; rw [if_pos ek, if_pos ek, hk0]; rw [if_neg ek, if_neg ek]), fin1 0 1 (by unfold ind; rw [if_neg h3]) (by unfold ind; rw [if_pos h4]), fin2 0 1⟩⟩⟩
      · refine ⟨⟨by omega, by omega⟩, ?_⟩
        exact ⟨_, by omega, ci ⟨k + 1, fun e => if e = k then 0 - 0 else h e, _, _, rfl, ⟨rfl, rfl, rfl, rfl, rfl, rfl, trivial⟩, rfl, by omega, ⟨(by rw [(p0 _)]; congr 3; exact FL_eq fun e he => by by_cases ek : e = k; rw [if_pos ek, ek, hk0]; rfl; rw [if_neg ek]), fin1 0 0 (by unfold ind; rw [if_neg h3]) (by unfold ind; rw [if_neg h4]), fin2 0 0⟩⟩⟩
  · have hke : k = 2 * n := by omega
    subst hke
    refine endf (fz_ints (contOf_live h0) FL_len) ?_
    rw [FL_eq fun e he => h1 e he]
end Go.PI
/- CROSSINGS, of the program. -/
open Go.Proofs
namespace Go.PI
open IM
set_option maxRecDepth 10000
set_option maxHeartbeats 4000000
variable (S : FuncId → Option (List AV → Heap → Option (AV × Heap)))
/-- what a list of numbers gives with all others, and how large its numbers are -/
structure Tt (m : Nat) (τ : Nat → Int) (X : (Nat → Int) → Int) (b : Int) : Prop where
  sum : ∀ a : Nat → Int, sumN (fun e => a e * τ e) m = X a
  le : ∀ e, -b ≤ τ e ∧ τ e ≤ b
theorem Tt.zero {m : Nat} : Tt m (fun _ => 0) (fun _ => 0) 0 := ⟨fun a => sumN_zero fun i _ => by simp, fun _ => ⟨by decide, by decide⟩⟩
theorem Tt.add {m q : Nat} {τ : Nat → Int} {X : (Nat → Int) → Int} {b x y : Int} (h : Tt m τ X b) (hq : q < m) (hx : -y ≤ x ∧ x ≤ y) : Tt m (fun e => τ e + if e = q then x else 0) (fun a => X a + a q * x) (b + y) := by
  refine ⟨fun a => ?_, fun e => ?_⟩
  · rw [← h.sum a, ← sumN_one (x := a q * x) hq, ← sumN_plus]
    refine sumN_eq fun e he => ?_
    by_cases k : e = q
    · rw [if_pos k, if_pos k, k, Int.mul_add]
    · rw [if_neg k, if_neg k, Int.add_zero, Int.add_zero]
  · have := h.le e
    show _ ≤ τ e + _ ∧ τ e + _ ≤ _
    split <;> omega
theorem Tt.sub {m q : Nat} {τ : Nat → Int} {X : (Nat → Int) → Int} {b x y : Int} (h : Tt m τ X b) (hq : q < m) (hx : -y ≤ x ∧ x ≤ y) : Tt m (fun e => τ e - if e = q then x else 0) (fun a => X a - a q * x) (b + y) := by
  refine ⟨fun a => ?_, fun e => ?_⟩
  · rw [← h.sum a, ← sumN_one (x := a q * x) hq, ← sumN_sub]
    refine sumN_eq fun e he => ?_
    by_cases k : e = q
    · rw [if_pos k, if_pos k, k, Int.mul_sub]
    · rw [if_neg k, if_neg k, Int.sub_zero, Int.sub_zero]
  · have := h.le e
    show _ ≤ τ e - _ ∧ τ e - _ ≤ _
    split <;> omega
theorem Tt.is {m : Nat} {τ : Nat → Int} {X Y : (Nat → Int) → Int} {b b' : Int} (h : Tt m τ X b) (e : ∀ a, X a = Y a) (hb : b ≤ b') : Tt m τ Y b' := ⟨fun a => (h.sum a).trans (e a), fun i => by have := h.le i; omega⟩
variable {n : Nat} {f f' g g' : Nat → Nat}
/-- what the squares below i move into square k -/
def mo (n : Nat) (f g : Nat → Nat) (B : Nat → Int) (i k : Nat) : Int := sumN (fun j => (if k = f j then B j else 0) + (if k = g j then B (n + j) else 0) - (if k = j then B j + B (n + j) else 0)) i
theorem mo_le {B : Nat → Int} {i k : Nat} (hB : ∀ j, j < i → (-1000000 ≤ B j ∧ B j ≤ 1000000) ∧ (-1000000 ≤ B (n + j) ∧ B (n + j) ≤ 1000000)) : -(i * 4000000) ≤ mo n f g B i k ∧ mo n f g B i k ≤ i * 4000000 := sumN_le fun j hj => by
  have := hB j hj
  split <;> split <;> split <;> omega
theorem mo_end (pr : IsP n f f') (pu : IsP n g g') (B : Nat → Int) {k : Nat} (hk : k < n) : mo n f g B n k = ex n f' g' B k := by
  unfold mo ex
  rw [sumN_sub, sumN_plus]
  have e1 : sumN (fun j => if k = f j then B j else 0) n = B (f' k) := by
    rw [← sumN_one (x := B (f' k)) (pr.glt k hk)]
    refine sumN_eq fun j hj => ?_
    by_cases e : k = f j
    · rw [if_pos e, if_pos (by rw [e, pr.gf j hj]), e, pr.gf j hj]
    · rw [if_neg e, if_neg (fun e2 => e (by rw [e2, pr.fg k hk]))]
  have e2 : sumN (fun j => if k = g j then B (n + j) else 0) n = B (n + g' k) := by
    rw [← sumN_one (x := B (n + g' k)) (pu.glt k hk)]
    refine sumN_eq fun j hj => ?_
    by_cases e : k = g j
    · rw [if_pos e, if_pos (by rw [e, pu.gf j hj]), e, pu.gf j hj]
    · rw [if_neg e, if_neg (fun e2 => e (by rw [e2, pu.fg k hk]))]
  have e3 : sumN (fun j => if k = j then B j + B (n + j) else 0) n = B k + B (n + k) := by
    rw [← sumN_one (x := B k + B (n + k)) hk]
    refine sumN_eq fun j hj => ?_
    by_cases e : k = j
    · rw [if_pos e, if_pos e.symm, e]
    · rw [if_neg e, if_neg (fun e2 => e e2.symm)]
  rw [e1, e2, e3]
  omega
theorem ex_le {B : Nat → Int} {k : Nat} (pr : IsP n f f') (pu : IsP n g g') (hk : k < n) (hB : ∀ j, j < 2 * n → -1000000 ≤ B j ∧ B j ≤ 1000000) : -4000000 ≤ ex n f' g' B k ∧ ex n f' g' B k ≤ 4000000 := by
  have h1 := hB (f' k) (by have := pr.glt k hk; omega)
  have h2 := hB k (by omega)
  have h3 := hB (n + g' k) (by have := pu.glt k hk; omega)
  have h4 := hB (n + k) (by omega)
  unfold ex
  omega
open Classical in
/-- what the turns around the first v vertices count -/
noncomputable def GV (n : Nat) (f f' g g' : Nat → Nat) (B : Nat → Int) (v : Nat) (a : Nat → Int) : Int := sumN (fun i => if lead (cmf f f' g g') i ∧ (cycs i (cmf f f' g g')).length < v then Gc n f f' g g' a B i else 0) n
theorem GV_zero {B a : Nat → Int} : GV n f f' g g' B 0 a = 0 := sumN_zero fun i hi => if_neg fun e => by have := e.2; omega
open Classical in
theorem GV_next {B a : Nat → Int} {m v : Nat} (hm : m < n) (hl : lead (cmf f f' g g') m) (hv : (cycs m (cmf f f' g g')).length = v) : GV n f f' g g' B (v + 1) a = GV n f f' g g' B v a + Gc n f f' g g' a B m := by
  unfold GV
  rw [← sumN_one (x := Gc n f f' g g' a B m) hm, ← sumN_plus]
  refine sumN_eq fun i hi => ?_
  by_cases e : i = m
  · subst e
    rw [if_pos ⟨hl, by omega⟩, if_neg (fun k => by have := k.2; omega), if_pos rfl]; omega
  · rw [if_neg e, Int.add_zero]
    by_cases k : lead (cmf f f' g g') i ∧ (cycs i (cmf f f' g g')).length < v
    · rw [if_pos k, if_pos ⟨k.1, by omega⟩]
    · rw [if_neg k, if_neg]
      rintro ⟨k1, k2⟩
      rcases Nat.lt_trichotomy i m with a | a | a
      · have := cycs_lt k1 a; exact k ⟨k1, by omega⟩
      · exact e a
      · have := cycs_lt hl a; omega
open Classical in
theorem GV_end {B a : Nat → Int} : Fs n f g a B + GV n f f' g g' B (cycs n (cmf f f' g g')).length a = Isn n f f' g g' a B := by
  unfold Isn GV
  congr 1
  refine sumN_eq fun i hi => ?_
  by_cases hl : lead (cmf f f' g g') i
  · rw [if_pos hl, if_pos ⟨hl, cycs_lt hl hi⟩]
  · rw [if_neg hl, if_neg (fun e => hl e.1)]
end Go.PI
