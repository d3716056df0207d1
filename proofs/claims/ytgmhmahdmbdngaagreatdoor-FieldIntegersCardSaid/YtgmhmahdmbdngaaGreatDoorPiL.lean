/- Own work of the verifier, group PiL: PiTab1 PiTab2. -/
import Derived.Test.YtgmhmahdmbdngaaGreatDoorPiK
import Derived.Test.YtgmhmahdmbdngaaGreatDoorPiF
set_option linter.all false
set_option linter.deprecated false
/- THE FIRST TABLE OF SUMMARIES: the arithmetic of lists. -/
open Go.Proofs
namespace Go.PI
open IM
def sum1 (g : List Int → AV → Heap → Option (AV × Heap)) (us : List AV) (H : Heap) : Option (AV × Heap) :=
  match us with
  | [v] => match getL H v with
    | some xs => whenB (shortB xs && roomB H) (g xs v H)
    | none => none
  | _ => none
theorem sum1_some {g : List Int → AV → Heap → Option (AV × Heap)} {us : List AV} {H H' : Heap} {r : AV} (h : sum1 g us H = some (r, H')) : ∃ v xs, us = [v] ∧ Sl H v xs ∧ xs.length ≤ 1000000 ∧ H.n ≤ 274877906944 ∧ g xs v H = some (r, H') := by
  unfold sum1 at h
  split at h
  · rename_i v
    split at h
    · rename_i xs hx
      obtain ⟨h1, h2⟩ := whenB_some h
      simp only [Bool.and_eq_true] at h1
      exact ⟨v, xs, rfl, getL_sl hx, shortB_le h1.1, roomB_lt h1.2, h2⟩
    · cases h
  · cases h
def sSign := sum1 fun xs _ H => some (iv (sgnL xs), H)
def sIsNormal := sum1 fun xs _ H => some (.bool (nrmB xs), H)
def sIsOne := sum1 fun xs _ H => some (.bool (decide (xs = [1])), H)
def sNormal := sum1 fun xs v H => whenB (all64 xs) (match nrmB xs with
  | true => some (v, H)
  | false => newL (digits (val xs)) H)
def negOk (xs : List Int) : Bool := xs.all fun x => decide (-9223372036854775808 < x) && decide (x ≤ 9223372036854775808)
theorem negOk_in {xs : List Int} (h : negOk xs = true) : ∀ x ∈ xs, In64 (0 - x) := fun x hx => by
  have := List.all_eq_true.1 h x hx
  simp only [Bool.and_eq_true, decide_eq_true_eq] at this
  exact ⟨by omega, by omega⟩
def sNegative := sum1 fun xs _ H => whenB (negOk xs) (newL (negL xs) H)
def sSize := sum1 fun xs v H => whenB (negOk xs) (match decide (sgnL xs < 0) with
  | true => newL (negL xs) H
  | false => some (v, H))
def sClone := sum1 fun xs v H => match v with
  | .nils => some (.nils, H)
  | _ => newL xs H
def sOf (us : List AV) (H : Heap) : Option (AV × Heap) :=
  match us with
  | [.int .i64 n] => whenB (decide (-9223372036854775808 ≤ n) && decide (n < 9223372036854775808) && roomB H) (newL (digits n) H)
  | _ => none
def sPlus (us : List AV) (H : Heap) : Option (AV × Heap) :=
  match us with
  | [x, .int .i64 f, y] => match getL H x, getL H y with
    | some xs, some ys => whenB (shortB xs && shortB ys && roomB H && allS xs && allS ys && decide (-100000000 ≤ f) && decide (f ≤ 100000000)) (newL (digits (val xs + f * val ys)) H)
    | _, _ => none
  | _ => none
def emptyB (xs : List Int) : Bool := match xs with | [] => true | _ => false
def sProduct (us : List AV) (H : Heap) : Option (AV × Heap) :=
  match us with
  | [x, y] => match getL H x, getL H y with
    | some xs, some ys => whenB (Nat.ble xs.length 511 && shortB ys && roomB H && allS xs && allS ys) (match emptyB xs || emptyB ys with
      | true => some (.nils, H)
      | false => newL (digits (val xs * val ys)) H)
    | _, _ => none
  | _ => none

def S0 : FuncId → Option (List AV → Heap → Option (AV × Heap)) := fun _ => none
theorem old0 : Old S0 := ⟨rfl, rfl, rfl, rfl, rfl⟩
theorem room_lim {H : Heap} (h : H.n ≤ 274877906944) : H.n + 100 < lim := by unfold lim; omega
theorem sumOk {C : Ctx} {f : FuncId} {s : List AV → Heap → Option (AV × Heap)} (h : ∀ us H v H', s us H = some (v, H') → Cl C f us H fun v1 H1 => Less H v H' v1 H1) : SumOk C f s := h

theorem ok_new {xs : List Int} {H H' : Heap} {v : AV} (h : newL xs H = some (v, H')) (hr : H.n ≤ 274877906944) {r : AV} {H1 : Heap} (hM : Mine H H.n r xs H1) : Less H v H' r H1 := by
  cases h
  exact less_fresh (by have := room_lim hr; omega) hM
theorem ok_sign : SumOk (ctx.plus S0) 125 sSign := sumOk fun us H v H' h => by
  obtain ⟨x, xs, rfl, h1, h2, h3, h4⟩ := sum1_some h
  cases h4
  exact (sign_run S0 rfl (by omega) h1).mono (by rintro r H1 ⟨rfl, rfl⟩; exact Less.refl _ _ _)
theorem ok_isNormal : SumOk (ctx.plus S0) 180 sIsNormal := sumOk fun us H v H' h => by
  obtain ⟨x, xs, rfl, h1, h2, h3, h4⟩ := sum1_some h
  cases h4
  exact (isNormal_run S0 rfl (by omega) h1).mono (by rintro r H1 ⟨rfl, rfl⟩; exact Less.refl _ _ _)
theorem ok_isOne : SumOk (ctx.plus S0) 179 sIsOne := sumOk fun us H v H' h => by
  obtain ⟨x, xs, rfl, h1, h2, h3, h4⟩ := sum1_some h
  cases h4
  exact (isOne_run S0 rfl h1).mono (by rintro r H1 ⟨rfl, rfl⟩; exact Less.refl _ _ _)
theorem ok_normal : SumOk (ctx.plus S0) 106 sNormal := sumOk fun us H v H' h => by
  obtain ⟨x, xs, rfl, h1, h2, h3, h4⟩ := sum1_some h
  obtain ⟨h5, h6⟩ := whenB_some h4
  have := room_lim h3
  refine (normal_run S0 old0 rfl rfl rfl (by omega) h1 h2 (all64_in h5)).mono ?_
  intro r H1 hM
  split at h6
  · rename_i hb
    rw [if_pos hb] at hM
    obtain ⟨rfl, rfl⟩ := hM
    cases h6
    exact Less.refl _ _ _
  · rename_i hb
    rw [if_neg (by rw [hb]; simp)] at hM
    exact ok_new h6 h3 hM
theorem ok_negative : SumOk (ctx.plus S0) 127 sNegative := sumOk fun us H v H' h => by
  obtain ⟨x, xs, rfl, h1, h2, h3, h4⟩ := sum1_some h
  obtain ⟨h5, h6⟩ := whenB_some h4
  have := room_lim h3
  exact (negative_run S0 rfl (by omega) h1 h2 (negOk_in h5)).mono fun r H1 hM => ok_new h6 h3 hM
theorem ok_size : SumOk (ctx.plus S0) 186 sSize := sumOk fun us H v H' h => by
  obtain ⟨x, xs, rfl, h1, h2, h3, h4⟩ := sum1_some h
  obtain ⟨h5, h6⟩ := whenB_some h4
  have := room_lim h3
  refine (size_run S0 rfl rfl rfl (by omega) h1 h2 (negOk_in h5)).mono ?_
  intro r H1 hM
  split at h6
  · rename_i hb
    rw [if_pos (of_decide_eq_true hb)] at hM
    exact ok_new h6 h3 hM
  · rename_i hb
    rw [if_neg (of_decide_eq_false hb)] at hM
    obtain ⟨rfl, rfl⟩ := hM
    cases h6
    exact Less.refl _ _ _
theorem ok_clone : SumOk (ctx.plus S0) 109 sClone := sumOk fun us H v H' h => by
  obtain ⟨x, xs, rfl, h1, h2, h3, h4⟩ := sum1_some h
  have := room_lim h3
  refine (clone_run S0 rfl (by omega) h1 h2).mono ?_
  rintro r H1 (⟨rfl, rfl, rfl⟩ | ⟨hx, hM, -⟩)
  · cases h4
    exact Less.refl _ _ _
  · split at h4
    · exact absurd rfl hx
    · exact ok_new h4 h3 hM
theorem ok_of : SumOk (ctx.plus S0) 26 sOf := sumOk fun us H v H' h => by
  unfold sOf at h
  split at h
  · obtain ⟨h1, h2⟩ := whenB_some h
    simp only [Bool.and_eq_true, decide_eq_true_eq] at h1
    have h3 := roomB_lt h1.2
    have := room_lim h3
    exact (of_run S0 old0 rfl (by omega) h1.1).mono fun r H1 hM => ok_new h2 h3 hM
  · cases h
theorem ok_plus : SumOk (ctx.plus S0) 114 sPlus := sumOk fun us H v H' h => by
  unfold sPlus at h
  split at h
  · split at h
    · rename_i xs ys hx hy
      obtain ⟨h1, h2⟩ := whenB_some h
      simp only [Bool.and_eq_true, decide_eq_true_eq] at h1
      obtain ⟨⟨⟨⟨⟨⟨a1, a2⟩, a3⟩, a4⟩, a5⟩, a6⟩, a7⟩ := h1
      have h3 := roomB_lt a3
      have := room_lim h3
      exact (plus_run S0 old0 rfl (by omega) (getL_sl hx) (getL_sl hy) (shortB_le a1) (shortB_le a2) (allS_sml a4) (allS_sml a5) ⟨a6, a7⟩).mono fun r H1 hM => ok_new h2 h3 hM
    · cases h
  · cases h
theorem emptyB_iff {xs : List Int} : emptyB xs = true ↔ xs = [] := by cases xs <;> simp [emptyB]
theorem ok_product : SumOk (ctx.plus S0) 116 sProduct := sumOk fun us H v H' h => by
  unfold sProduct at h
  split at h
  · split at h
    · rename_i xs ys hx hy
      obtain ⟨h1, h2⟩ := whenB_some h
      simp only [Bool.and_eq_true] at h1
      obtain ⟨⟨⟨⟨a1, a2⟩, a3⟩, a4⟩, a5⟩ := h1
      have h3 := roomB_lt a3
      have := room_lim h3
      refine (product_run S0 old0 rfl (by omega) (getL_sl hx) (getL_sl hy) (Nat.le_of_ble_eq_true a1) (shortB_le a2) (allS_sml a4) (allS_sml a5)).mono ?_
      intro r H1 hM
      split at h2
      · rename_i hb
        simp only [Bool.or_eq_true, emptyB_iff] at hb
        rw [if_pos hb] at hM
        obtain ⟨rfl, rfl⟩ := hM
        cases h2
        exact Less.refl _ _ _
      · rename_i hb
        rw [if_neg (by intro h0; simp only [Bool.or_eq_false_iff] at hb; rcases h0 with h0 | h0 <;> rw [h0] at hb <;> simp [emptyB] at hb)] at hM
        exact ok_new h2 h3 hM
    · cases h
  · cases h

def S1 : FuncId → Option (List AV → Heap → Option (AV × Heap)) := fun f =>
  if f < 116 then
    (if f < 109 then (if f = 26 then some sOf else if f = 106 then some sNormal else none)
     else (if f = 109 then some sClone else if f = 114 then some sPlus else none))
  else
    (if f < 179 then (if f = 116 then some sProduct else if f = 125 then some sSign else if f = 127 then some sNegative else none)
     else (if f = 179 then some sIsOne else if f = 180 then some sIsNormal else if f = 186 then some sSize else none))
theorem case_if {α : Type} {p : Prop} [Decidable p] {a b : Option α} {s : α} {Q : Prop} (h : (if p then a else b) = some s) (h1 : p → a = some s → Q) (h2 : b = some s → Q) : Q := by
  split at h
  · exact h1 ‹_› h
  · exact h2 h
theorem leaf_if {f g : FuncId} {s t : List AV → Heap → Option (AV × Heap)} {C : Ctx} (hok : SumOk C g t) : f = g → some t = some s → SumOk C f s := by
  rintro rfl h
  cases h
  exact hok
theorem ctx1_ok : Ctx.Ok Tryz.prog (ctx.plus S1) := by
  have h0 : Ctx.Ok Tryz.prog (ctx.plus S0) := ctx_ok
  refine Ctx.plus_ok (C := ctx.plus S0) h0 (T := S1) fun f s h => .inr ?_
  have hn : ∀ {Q : Prop}, (none : Option (List AV → Heap → Option (AV × Heap))) = some s → Q := fun h => by cases h
  refine case_if h (fun _ h => case_if h (fun _ h => case_if h (leaf_if ok_of) fun h => case_if h (leaf_if ok_normal) hn) fun h => case_if h (leaf_if ok_clone) fun h => case_if h (leaf_if ok_plus) hn) fun h =>
    case_if h (fun _ h => case_if h (leaf_if ok_product) fun h => case_if h (leaf_if ok_sign) fun h => case_if h (leaf_if ok_negative) hn) fun h => case_if h (leaf_if ok_isOne) fun h => case_if h (leaf_if ok_isNormal) fun h => case_if h (leaf_if ok_size) hn
noncomputable def ctx1 : Ctx := ctx.plus S1
end Go.PI

/- THE SECOND TABLE: awake besides. -/
open Go.Proofs
namespace Go.PI
/-- What a call out of nothing leaves, it leaves beside whatever there is. -/
theorem frame_closed {μ : M} {H H1 : Heap} {w w' : World} {v : AV} {u : Value} (hH : HR μ H w) (hv : ∀ μ1, VR μ1 v u → VR μ v u) (h : EffR (fun _ => none) ⟨0, .nil⟩ w v H1 u w') : EffR μ H w v H u w' := by
  obtain ⟨μ1, h1, h2, hF⟩ := h
  have hk : ∀ k, k < w.heap.size → w'.heap[k]? = w.heap[k]? := fun k hk => (hF.keep k hk (by rintro ⟨A, a, -, hm, -⟩; cases hm)).1
  refine ⟨μ, hv _ h1, ⟨hH.lim, hH.dom, fun A bi hA hm => ?_, hH.inj⟩, M.le.refl _, fun _ _ => rfl, Nat.le_refl _, hF.os, hF.tape, hF.output, hF.size, fun k hk' ho => ⟨hk k hk', ho⟩, fun A hl ho => ⟨Heap.lt_of_get (fun e => by rw [e] at hl; cases hl), rfl⟩⟩
  obtain ⟨g1, g2⟩ := hH.blk A bi hA hm
  refine ⟨Nat.lt_of_lt_of_le g1 hF.size, ?_⟩
  generalize H.get A = x at g2
  cases x with
  | dead => trivial
  | dfr => exact (hk _ g1).trans g2
  | cells rw ty cs =>
    obtain ⟨carr, fz, q1, q2⟩ := g2
    exact ⟨carr, fz, (hk _ g1).trans q1, q2⟩
  | loop L =>
    obtain ⟨lp, q1, q2⟩ := g2
    exact ⟨lp, (hk _ g1).trans q1, q2⟩
/-- Whoever knows a call's every outcome. -/
def SumR (P : Program) (f : FuncId) (S : List AV → Heap → Option (AV × Heap)) : Prop := ∀ us H v H', S us H = some (v, H') → ∀ μ (args : Array Value) w, VRs μ us args.toList → HR μ H w → CallR P μ H w f args v H'
theorem Ctx.plus_ok2 {P : Program} {C : Ctx} (hC : Ctx.Ok P C) {T : FuncId → Option (List AV → Heap → Option (AV × Heap))} (h : ∀ f S, T f = some S → C.sum f = some S ∨ SumR P f S) : Ctx.Ok P (C.plus T) where
  ty := hC.ty
  fn := hC.fn
  same := hC.same
  noZero := hC.noZero
  mixed := hC.mixed
  sum := by
    intro f S us H v H' hf hS μ args w ha hH
    rcases h f S hf with h | h
    · exact hC.sum f S us H v H' h hS μ args w ha hH
    · exact h us H v H' hS μ args w ha hH
/-- A call without arguments that was seen to end true. -/
theorem closed_true {P : Program} {C : Ctx} (hC : Ctx.Ok P C) {n : Nat} {f : FuncId} {H1 : Heap} (h : call C n f [] ⟨0, .nil⟩ = some (.bool true, H1)) : SumR P f fun us H => match us with
    | [] => some (.bool true, H)
    | _ => none := by
  intro us H v H' hS μ args w ha hH
  cases us with
  | cons a b => cases hS
  | nil =>
    cases hS
    have h0 : HR (fun _ => none) ⟨0, .nil⟩ w := ⟨by simp [PI.lim], fun _ _ => rfl, fun A bi hl hm => (by cases hm), fun A B a b _ _ _ hm => (by cases hm)⟩
    have ha0 : VRs (fun _ => none) [] args.toList := by
      generalize args.toList = l at ha
      cases ha
      exact .nil
    have hb : ∀ u, (∀ μ1, VR μ1 (.bool true) u → VR μ (.bool true) u) := fun u μ1 h => by cases h; exact .bool _
    rcases callF_sim hC (sound hC n) h ha0 h0 with ⟨u, w', h1, h2⟩ | ⟨h1, h2⟩
    · exact .inl ⟨u, w', h1, frame_closed hH (hb u) h2⟩
    · refine .inr ⟨h1, fun F m hF => (h2 F m hF).mono ?_⟩
      rintro e w' ⟨u, rfl, hE⟩
      exact ⟨u, rfl, frame_closed hH (hb u) hE⟩
def sTrue (us : List AV) (H : Heap) : Option (AV × Heap) :=
  match us with
  | [] => some (.bool true, H)
  | _ => none
def S2 : FuncId → Option (List AV → Heap → Option (AV × Heap)) := fun f => if f = 20 then some sTrue else S1 f
noncomputable def ctx2 : Ctx := ctx.plus S2
theorem ctx2_ok {n : Nat} {H1 : Heap} (h : call ctx1 n 20 [] ⟨0, .nil⟩ = some (.bool true, H1)) : Ctx.Ok Tryz.prog ctx2 := by
  refine Ctx.plus_ok2 (C := ctx.plus S1) ctx1_ok (T := S2) fun f s hf => ?_
  unfold S2 at hf
  split at hf
  · rename_i he
    subst he
    cases hf
    exact .inr (closed_true ctx1_ok h)
  · exact .inl hf
def isTrue (x : Option (AV × Heap)) : Bool := match x with | some (.bool true, _) => true | _ => false
theorem isTrue_some {x : Option (AV × Heap)} (h : isTrue x = true) : ∃ H, x = some (.bool true, H) := by
  unfold isTrue at h
  split at h
  · exact ⟨_, rfl⟩
  · cases h
end Go.PI

