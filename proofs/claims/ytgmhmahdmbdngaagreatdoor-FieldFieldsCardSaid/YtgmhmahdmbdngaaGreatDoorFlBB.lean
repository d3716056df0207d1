/- Own work of the verifier: PvRatl PiTab1. -/
import Derived.Test.YtgmhmahdmbdngaaGreatDoorFlAV
import Derived.Test.YtgmhmahdmbdngaaGreatDoorFlAN
set_option linter.all false
set_option linter.deprecated false
namespace Go.PI
open IM
theorem vS_snd (x y : Int) : ∀ L : List Int, (vS L x y).2 = y ^ L.length
 | [] => by simp [vS]
 | c :: cs => by
  have h := vS_snd x y cs
  simp only [vS, List.length_cons, h]
  rw [Int.pow_succ]
theorem vS_hom (g x y : Int) : ∀ L : List Int, (vS L (g * x) (g * y)).1 * g = g ^ L.length * (vS L x y).1
 | [] => by simp [vS]
 | c :: cs => by
  have h := vS_hom g x y cs
  have h1 := vS_snd (g * x) (g * y) cs
  have h2 := vS_snd x y cs
  simp only [vS, List.length_cons, h1, h2]
  rw [Int.pow_succ]
  have e : (g * y) ^ cs.length = g ^ cs.length * y ^ cs.length := Int.mul_pow ..
  rw [e]
  generalize (vS cs (g * x) (g * y)).1 = A at *
  generalize (vS cs x y).1 = B at *
  generalize g ^ cs.length = G at *
  generalize y ^ cs.length = Y at *
  grind
theorem vS_monic (x y : Int) : ∀ L : List Int, L ≠ [] -> L.getD (L.length - 1) 0 = 1 -> ∃ q, (vS L x y).1 = x ^ (L.length - 1) + y * q
 | [], h, _ => absurd rfl h
 | [c], _, h => by
  have : c = 1 := by simpa using h
  subst this
  exact ⟨0, by simp [vS]⟩
 | c :: d :: cs, _, h => by
  obtain ⟨q, hq⟩ := vS_monic x y (d :: cs) (by simp) (by simpa using h)
  have h2 := vS_snd x y (d :: cs)
  refine ⟨q * x + c * y ^ cs.length, ?_⟩
  have e : (vS (c :: d :: cs) x y).1 = (vS (d :: cs) x y).1 * x + c * (vS (d :: cs) x y).2 := rfl
  rw [e, hq, h2]
  simp only [List.length_cons, Nat.add_sub_cancel]
  rw [Int.pow_succ, Int.pow_succ]
  grind
theorem vS_one (x : Int) : ∀ L : List Int, (vS L x 1).1 = pv L x
 | [] => by simp [vS, pv]
 | c :: cs => by
  have h := vS_one x cs
  have h2 := vS_snd x 1 cs
  have e : (vS (c :: cs) x 1).1 = (vS cs x 1).1 * x + c * (vS cs x 1).2 := rfl
  rw [e, h, h2, Int.one_pow]
  simp only [pv]
  grind
theorem no_rat {L : List Int} (hne : L ≠ []) (hm : L.getD (L.length - 1) 0 = 1) (hz : ∀ b, pv L b ≠ 0) {x y : Int} (hy : 1 <= y) : (vS L x y).1 ≠ 0 := by
 intro h0
 obtain ⟨g, hg⟩ : ∃ g : Nat, Int.gcd x y = g := ⟨_, rfl⟩
 have hgp : 0 < g := by
  rw [← hg]
  exact Int.gcd_pos_of_ne_zero_right _ (by omega)
 obtain ⟨x', hx⟩ : ∃ x', x = (g : Int) * x' := by
  have := Int.gcd_dvd_left (a := x) (b := y); rw [hg] at this; exact this
 obtain ⟨y', hy'⟩ : ∃ y', y = (g : Int) * y' := by
  have := Int.gcd_dvd_right (a := x) (b := y); rw [hg] at this; exact this
 have hcop : Int.gcd x' y' = 1 := by
  have h1 : Int.gcd ((g : Int) * x') ((g : Int) * y') = g * Int.gcd x' y' := by rw [Int.gcd_mul_left]; simp
  rw [← hx, ← hy', hg] at h1
  have : g * 1 = g * Int.gcd x' y' := by omega
  exact (Nat.eq_of_mul_eq_mul_left hgp this).symm
 have h1 := vS_hom g x' y' L
 rw [← hx, ← hy', h0, Int.zero_mul] at h1
 have hF : (vS L x' y').1 = 0 := by
  rcases Int.mul_eq_zero.1 h1.symm with h | h
  ·have : (0:Int) < (g : Int) ^ L.length := Int.pow_pos (by omega)
   omega
  ·exact h
 obtain ⟨q, hq⟩ := vS_monic x' y' L hne hm
 rw [hF] at hq
 have hdv : y' ∣ x' ^ (L.length - 1) := ⟨-q, by rw [Int.mul_neg]; omega⟩
 have hdn : y'.natAbs ∣ x'.natAbs ^ (L.length - 1) := by
  have := Int.natAbs_dvd_natAbs.2 hdv
  rwa [Int.natAbs_pow] at this
 have hc : Nat.Coprime y'.natAbs (x'.natAbs ^ (L.length - 1)) := by
  refine Nat.Coprime.pow_right _ ?_
  have : Nat.gcd x'.natAbs y'.natAbs = 1 := hcop
  exact (Nat.gcd_comm _ _).trans this
 have h1' := Nat.Coprime.eq_one_of_dvd hc hdn
 have hyp : 0 < y' := by
  rcases ilt_or 0 y' with h | h
  ·exact h
  ·exfalso
   have : (g : Int) * y' <= 0 := Int.mul_nonpos_of_nonneg_of_nonpos (by omega) h
   omega
 have hy1 : y' = 1 := by omega
 subst hy1
 rw [vS_one] at hF
 exact hz x' hF
theorem pv_dvd {p0 b : Int} {cs : List Int} (h : pv (p0 :: cs) b = 0) : b ∣ p0 := by
 simp only [pv] at h
 exact ⟨-(pv cs b), by rw [Int.mul_neg]; first | omega | grind⟩
theorem no_root {p0 : Int} {cs : List Int} (h : ¬ HasP (p0 :: cs)) (b : Int) : pv (p0 :: cs) b ≠ 0 := fun hb => by
 refine h ⟨p0, cs, rfl, ?_⟩
 exact .inr ⟨b, pv_dvd hb, .inl hb⟩
end Go.PI
open Go.Proofs
namespace Go.PI
open IM
def sum1 (g : List Int -> AV -> Heap -> Option (AV × Heap)) (us : List AV) (H : Heap) : Option (AV × Heap) :=
  match us with
  | [v] => match getL H v with
    | some xs => whenB (shortB xs && roomB H) (g xs v H)
    | none => none
  | _ => none
theorem sum1_some {g : List Int -> AV -> Heap -> Option (AV × Heap)} {us : List AV} {H H' : Heap} {r : AV} (h : sum1 g us H = some (r, H')) : ∃ v xs, us = [v] /\ Sl H v xs /\ xs.length <= 1000000 /\ H.n <= 274877906944 /\ g xs v H = some (r, H') := by
  unfold sum1 at h
  split at h
  · rename_i v
    split at h
    · rename_i xs hx
      obtain ⟨h1, h2⟩ := whenB_some h
      simp only [Bool.and_eq_true] at h1
      exact ⟨v, xs, rfl, getL_sl hx, shortB_le h1.1, roomB_lt h1.2, h2⟩
    · cases h
  · cases h
def sSign := sum1 fun xs _ H => some (iv (sgnL xs), H)
def sIsNormal := sum1 fun xs _ H => some (.bool (nrmB xs), H)
def sIsOne := sum1 fun xs _ H => some (.bool (decide (xs = [1])), H)
def sNormal := sum1 fun xs v H => whenB (all64 xs) (match nrmB xs with
  | true => some (v, H)
  | false => newL (digits (val xs)) H)
def negOk (xs : List Int) : Bool := xs.all fun x => decide (-9223372036854775808 < x) && decide (x <= 9223372036854775808)
theorem negOk_in {xs : List Int} (h : negOk xs = true) : ∀ x ∈ xs, In64 (0 - x) := fun x hx => by
  have := List.all_eq_true.1 h x hx
  simp only [Bool.and_eq_true, decide_eq_true_eq] at this
  exact ⟨by omega, by omega⟩
def sNegative := sum1 fun xs _ H => whenB (negOk xs) (newL (negL xs) H)
def sSize := sum1 fun xs v H => whenB (negOk xs) (match decide (sgnL xs < 0) with
  | true => newL (negL xs) H
  | false => some (v, H))
def sClone := sum1 fun xs v H => match v with
  | .nils => some (.nils, H)
  | _ => newL xs H
def sOf (us : List AV) (H : Heap) : Option (AV × Heap) :=
  match us with
  | [.int .i64 n] => whenB (decide (-9223372036854775808 <= n) && decide (n < 9223372036854775808) && roomB H) (newL (digits n) H)
  | _ => none
def sPlus (us : List AV) (H : Heap) : Option (AV × Heap) :=
  match us with
  | [x, .int .i64 f, y] => match getL H x, getL H y with
    | some xs, some ys => whenB (shortB xs && shortB ys && roomB H && allS xs && allS ys && decide (-100000000 <= f) && decide (f <= 100000000)) (newL (digits (val xs + f * val ys)) H)
    | _, _ => none
  | _ => none
def emptyB (xs : List Int) : Bool := match xs with | [] => true | _ => false
def sProduct (us : List AV) (H : Heap) : Option (AV × Heap) :=
  match us with
  | [x, y] => match getL H x, getL H y with
    | some xs, some ys => whenB (Nat.ble xs.length 511 && shortB ys && roomB H && allS xs && allS ys) (match emptyB xs || emptyB ys with
      | true => some (.nils, H)
      | false => newL (digits (val xs * val ys)) H)
    | _, _ => none
  | _ => none
def S0 : FuncId -> Option (List AV -> Heap -> Option (AV × Heap)) := fun _ => none
theorem old0 : Old S0 := ⟨rfl, rfl, rfl, rfl, rfl⟩
theorem room_lim {H : Heap} (h : H.n <= 274877906944) : H.n + 100 < lim := by unfold lim; omega
theorem sumOk {C : Ctx} {f : FuncId} {s : List AV -> Heap -> Option (AV × Heap)} (h : ∀ us H v H', s us H = some (v, H') -> Cl C f us H fun v1 H1 => Less H v H' v1 H1) : SumOk C f s := h
theorem ok_new {xs : List Int} {H H' : Heap} {v : AV} (h : newL xs H = some (v, H')) (hr : H.n <= 274877906944) {r : AV} {H1 : Heap} (hM : Mine H H.n r xs H1) : Less H v H' r H1 := by
  cases h
  exact less_fresh (by have := room_lim hr; omega) hM
theorem ok_sign : SumOk (ctx.plus S0) 125 sSign := sumOk fun us H v H' h => by
  obtain ⟨x, xs, rfl, h1, h2, h3, h4⟩ := sum1_some h
  cases h4
  exact (sign_run S0 rfl (by omega) h1).mono (by rintro r H1 ⟨rfl, rfl⟩; exact Less.refl _ _ _)
theorem ok_isNormal : SumOk (ctx.plus S0) 180 sIsNormal := sumOk fun us H v H' h => by
  obtain ⟨x, xs, rfl, h1, h2, h3, h4⟩ := sum1_some h
  cases h4
  exact (isNormal_run S0 rfl (by omega) h1).mono (by rintro r H1 ⟨rfl, rfl⟩; exact Less.refl _ _ _)
theorem ok_isOne : SumOk (ctx.plus S0) 179 sIsOne := sumOk fun us H v H' h => by
  obtain ⟨x, xs, rfl, h1, h2, h3, h4⟩ := sum1_some h
  cases h4
  exact (isOne_run S0 rfl h1).mono (by rintro r H1 ⟨rfl, rfl⟩; exact Less.refl _ _ _)
theorem ok_normal : SumOk (ctx.plus S0) 106 sNormal := sumOk fun us H v H' h => by
  obtain ⟨x, xs, rfl, h1, h2, h3, h4⟩ := sum1_some h
  obtain ⟨h5, h6⟩ := whenB_some h4
  have := room_lim h3
  refine (normal_run S0 old0 rfl rfl rfl (by omega) h1 h2 (all64_in h5)).mono ?_
  intro r H1 hM
  split at h6
  · rename_i hb
    rw [if_pos hb] at hM
    obtain ⟨rfl, rfl⟩ := hM
    cases h6
    exact Less.refl _ _ _
  · rename_i hb
    rw [if_neg (by rw [hb]; simp)] at hM
    exact ok_new h6 h3 hM
theorem ok_negative : SumOk (ctx.plus S0) 127 sNegative := sumOk fun us H v H' h => by
  obtain ⟨x, xs, rfl, h1, h2, h3, h4⟩ := sum1_some h
  obtain ⟨h5, h6⟩ := whenB_some h4
  have := room_lim h3
  exact (negative_run S0 rfl (by omega) h1 h2 (negOk_in h5)).mono fun r H1 hM => ok_new h6 h3 hM
theorem ok_size : SumOk (ctx.plus S0) 186 sSize := sumOk fun us H v H' h => by
  obtain ⟨x, xs, rfl, h1, h2, h3, h4⟩ := sum1_some h
  obtain ⟨h5, h6⟩ := whenB_some h4
  have := room_lim h3
  refine (size_run S0 rfl rfl rfl (by omega) h1 h2 (negOk_in h5)).mono ?_
  intro r H1 hM
  split at h6
  · rename_i hb
    rw [if_pos (of_decide_eq_true hb)] at hM
    exact ok_new h6 h3 hM
  · rename_i hb
    rw [if_neg (of_decide_eq_false hb)] at hM
    obtain ⟨rfl, rfl⟩ := hM
    cases h6
    exact Less.refl _ _ _
theorem ok_clone : SumOk (ctx.plus S0) 109 sClone := sumOk fun us H v H' h => by
  obtain ⟨x, xs, rfl, h1, h2, h3, h4⟩ := sum1_some h
  have := room_lim h3
  refine (clone_run S0 rfl (by omega) h1 h2).mono ?_
  rintro r H1 (⟨rfl, rfl, rfl⟩ | ⟨hx, hM, -⟩)
  · cases h4
    exact Less.refl _ _ _
  · split at h4
    · exact absurd rfl hx
    · exact ok_new h4 h3 hM
theorem ok_of : SumOk (ctx.plus S0) 26 sOf := sumOk fun us H v H' h => by
  unfold sOf at h
  split at h
  · obtain ⟨h1, h2⟩ := whenB_some h
    simp only [Bool.and_eq_true, decide_eq_true_eq] at h1
    have h3 := roomB_lt h1.2
    have := room_lim h3
    exact (of_run S0 old0 rfl (by omega) h1.1).mono fun r H1 hM => ok_new h2 h3 hM
  · cases h
theorem ok_plus : SumOk (ctx.plus S0) 114 sPlus := sumOk fun us H v H' h => by
  unfold sPlus at h
  split at h
  · split at h
    · rename_i xs ys hx hy
      obtain ⟨h1, h2⟩ := whenB_some h
      simp only [Bool.and_eq_true, decide_eq_true_eq] at h1
      obtain ⟨⟨⟨⟨⟨⟨a1, a2⟩, a3⟩, a4⟩, a5⟩, a6⟩, a7⟩ := h1
      have h3 := roomB_lt a3
      have := room_lim h3
      exact (plus_run S0 old0 rfl (by omega) (getL_sl hx) (getL_sl hy) (shortB_le a1) (shortB_le a2) (allS_sml a4) (allS_sml a5) ⟨a6, a7⟩).mono fun r H1 hM => ok_new h2 h3 hM
    · cases h
  · cases h
theorem emptyB_iff {xs : List Int} : emptyB xs = true ↔ xs = [] := by cases xs <;> simp [emptyB]
theorem ok_product : SumOk (ctx.plus S0) 116 sProduct := sumOk fun us H v H' h => by
  unfold sProduct at h
  split at h
  · split at h
    · rename_i xs ys hx hy
      obtain ⟨h1, h2⟩ := whenB_some h
      simp only [Bool.and_eq_true] at h1
      obtain ⟨⟨⟨⟨a1, a2⟩, a3⟩, a4⟩, a5⟩ := h1
      have h3 := roomB_lt a3
      have := room_lim h3
      refine (product_run S0 old0 rfl (by omega) (getL_sl hx) (getL_sl hy) (Nat.le_of_ble_eq_true a1) (shortB_le a2) (allS_sml a4) (allS_sml a5)).mono ?_
      intro r H1 hM
      split at h2
      · rename_i hb
        simp only [Bool.or_eq_true, emptyB_iff] at hb
        rw [if_pos hb] at hM
        obtain ⟨rfl, rfl⟩ := hM
        cases h2
        exact Less.refl _ _ _
      · rename_i hb
        rw [if_neg (by intro h0; simp only [Bool.or_eq_false_iff] at hb; rcases h0 with h0 | h0 <;> rw [h0] at hb <;> simp [emptyB] at hb)] at hM
        exact ok_new h2 h3 hM
    · cases h
  · cases h
def S1 : FuncId -> Option (List AV -> Heap -> Option (AV × Heap)) := fun f =>
  if f < 116 then
    (if f < 109 then (if f = 26 then some sOf else if f = 106 then some sNormal else none)
     else (if f = 109 then some sClone else if f = 114 then some sPlus else none))
  else
    (if f < 179 then (if f = 116 then some sProduct else if f = 125 then some sSign else if f = 127 then some sNegative else none)
     else (if f = 179 then some sIsOne else if f = 180 then some sIsNormal else if f = 186 then some sSize else none))
theorem case_if {α : Type} {p : Prop} [Decidable p] {a b : Option α} {s : α} {Q : Prop} (h : (if p then a else b) = some s) (h1 : p -> a = some s -> Q) (h2 : b = some s -> Q) : Q := by
  split at h
  · exact h1 ‹_› h
  · exact h2 h
theorem leaf_if {f g : FuncId} {s t : List AV -> Heap -> Option (AV × Heap)} {C : Ctx} (hok : SumOk C g t) : f = g -> some t = some s -> SumOk C f s := by
  rintro rfl h
  cases h
  exact hok
theorem ctx1_ok : Ctx.Ok Tryz.prog (ctx.plus S1) := by
  have h0 : Ctx.Ok Tryz.prog (ctx.plus S0) := ctx_ok
  refine Ctx.plus_ok (C := ctx.plus S0) h0 (T := S1) fun f s h => .inr ?_
  have hn : ∀ {Q : Prop}, (none : Option (List AV -> Heap -> Option (AV × Heap))) = some s -> Q := fun h => by cases h
  refine case_if h (fun _ h => case_if h (fun _ h => case_if h (leaf_if ok_of) fun h => case_if h (leaf_if ok_normal) hn) fun h => case_if h (leaf_if ok_clone) fun h => case_if h (leaf_if ok_plus) hn) fun h =>
    case_if h (fun _ h => case_if h (leaf_if ok_product) fun h => case_if h (leaf_if ok_sign) fun h => case_if h (leaf_if ok_negative) hn) fun h => case_if h (leaf_if ok_isOne) fun h => case_if h (leaf_if ok_isNormal) fun h => case_if h (leaf_if ok_size) hn
noncomputable def ctx1 : Ctx := ctx.plus S1
end Go.PI
