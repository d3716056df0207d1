/- Own work of the verifier: XpV. -/
import Derived.Test.YtlemmipnpdjlladGreatXpAX
set_option linter.all false
set_option exponentiation.threshold 3000
set_option linter.deprecated false
/- THE LAW. -/
open Go.Proofs
namespace Go.PI
open IM
set_option maxRecDepth 10000
set_option maxHeartbeats 8000000
variable (S : FuncId → Option (List AV → Heap → Option (AV × Heap)))
theorem unit_ext {n w l : Nat} (hw : w < n) (hl : l < n) (hwl : w ≠ l) : (unitM n).map (extR w l) = stepM n w l := by
  refine List.ext_getElem? fun q => ?_
  rw [List.getElem?_map]
  by_cases hq : q < n
  · rw [unitM_at hq]
    show some (extR w l (unitR n q)) = _
    unfold stepM extR
    rw [unitR_get hl, unitR_get hw]
    by_cases h : w = q
    · subst h
      rw [List.getElem?_set_self (by simp [unitM]; exact hq), if_neg (Ne.symm hwl), if_pos rfl]
      rfl
    · rw [List.getElem?_set_ne h, unitM_at hq, if_neg (c := w = q) h, Int.add_zero]
      by_cases h2 : l = q
      · subst h2
        rw [if_pos rfl]
        unfold unitR
        rw [List.set_set]
      · rw [if_neg h2]
        congr 1
        refine List.ext_getElem? fun i => ?_
        by_cases hi : l = i
        · subst hi
          rw [List.getElem?_set_self (by simp [unitR]; exact hl)]
          unfold unitR
          rw [List.getElem?_set_ne (Ne.symm h2)]
          simp [hl]
        · rw [List.getElem?_set_ne hi]
  · rw [List.getElem?_eq_none (by simp [unitM]; omega), List.getElem?_eq_none (by rw [stepM_len]; omega)]
    rfl
theorem chkK_bad {ks : List Int} (h : chkK ks ≠ 0) (hl : ks.length ≤ 60) : chkK ks = 2 := by
  unfold chkK at *
  rw [if_neg (by omega)] at *
  split at h
  · exact absurd rfl h
  · rw [if_neg ‹_›]
theorem chkK_one {κ : Int} : (0 ≤ κ ∧ κ ≤ 1 → chkK [κ] = 0) ∧ (¬ (0 ≤ κ ∧ κ ≤ 1) → chkK [κ] = 2) := by
  unfold chkK
  rw [if_neg (by show ¬ 60 < 1; decide)]
  refine ⟨fun h => if_pos fun k hk => ?_, fun h => if_neg fun hK => h ?_⟩
  · rw [List.mem_singleton.1 hk]; omega
  · have := hK κ (by simp); omega
theorem fn3 : ctx.fn 3 = some c3 := by kernel_rfl
theorem law_I (hS : OldX S) (h3 : S 3 = none) {t b ks : List Int} {κ : Int} (hA : Ct (ctx.plus S) 5 [] 20000 fun r => r = .bool true) (l1 : t.length ≤ 12) (l2 : b.length ≤ 12) (hI : chkI t b ≠ 0) (hl : ks.length ≤ 20) :
    Ct (ctx.plus S) 3 [pRo t b, pn κ, pIs ks] 60000 fun r => r = .bool true := by
  obtain ⟨e, e0⟩ : ∃ e, chkI t b = e := ⟨_, rfl⟩
  have he : e ≠ 0 := fun h => hI (e0.trans h)
  have hF2 : chkF t b ks = e := by unfold chkF; rw [if_neg hI, e0]
  have hG2 : chkF t b [κ] = e := by unfold chkF; rw [if_neg hI, e0]
  refine ct_of h3 fn3 ?_
  refine ⟨by omega, ?_⟩
  refine callq rfl hA (by omega) ?_
  rintro _ rfl
  refine ⟨_, rfl, ?_⟩
  refine callq rfl (few_ct S hS) (by omega) ?_
  rintro _ (⟨-, rfl⟩ | ⟨hx, rfl⟩)
  rotate_left
  · exact absurd ⟨l1, l2⟩ hx
  refine ⟨fun h => False.elim (by omega), fun _ => ?_⟩
  refine ⟨fun h => False.elim (by omega), fun _ => ?_⟩
  refine ⟨_, rfl, ?_⟩
  refine callq rfl (Move_ct S hS l1 l2) (by omega) ?_
  rintro _ (⟨hx, -, rfl⟩ | ⟨-, rfl⟩)
  · exact absurd (hG2.symm.trans hx) (by omega)
  rw [hG2]
  refine ⟨by omega, ?_⟩
  refine ⟨_, _, rfl, ⟨rfl, Nat.le_refl 2, rfl⟩, _, rfl, _, rfl, ?_⟩
  refine ⟨_, rfl, ?_⟩
  refine callq rfl (Follow_ct S hS l1 l2 (by omega)) (by omega) ?_
  rintro _ (⟨hx, -, -, rfl⟩ | ⟨-, rfl⟩)
  · exact absurd (hF2.symm.trans hx) (by omega)
  rw [hF2]
  refine ⟨by omega, ?_⟩
  refine ⟨_, _, rfl, ⟨rfl, Nat.le_refl 2, rfl⟩, _, rfl, _, rfl, ?_⟩
  refine ⟨_, rfl, ?_⟩
  refine callq rfl (rchkIrr_ct S hS l1 l2) (by omega) ?_
  rintro _ rfl
  rw [e0]
  refine ⟨fun h => False.elim (by omega), fun _ => ?_⟩
  refine ⟨fun h => False.elim (by omega), fun _ => ?_⟩
  refine ⟨fun h => False.elim (by omega), fun _ => ?_⟩
  refine ⟨fun h => False.elim (by omega), fun _ => ?_⟩
  refine ⟨fun _ => ?_, fun h => False.elim (by omega)⟩
  refine ⟨_, rfl, ?_⟩
  refine callq (ps := [pRo [] []]) rfl (empty_ct S hS) (by omega) ?_
  rintro _ (⟨-, rfl⟩ | ⟨hx, rfl⟩)
  rotate_left
  · exact absurd ⟨rfl, rfl⟩ hx
  refine ⟨fun h => False.elim (by omega), fun _ => ?_⟩
  refine ⟨fun _ => ?_, fun h => False.elim (by omega)⟩
  refine ⟨_, rfl, ?_⟩
  refine callq (ps := [pRo [] []]) rfl (empty_ct S hS) (by omega) ?_
  rintro _ (⟨-, rfl⟩ | ⟨hx, rfl⟩)
  rotate_left
  · exact absurd ⟨rfl, rfl⟩ hx
  refine ⟨fun h => False.elim (by omega), fun _ => ?_⟩
  refine ⟨fun h => False.elim (by omega), fun _ => ?_⟩
  refine ⟨fun _ => ?_, fun h => False.elim (by omega)⟩
  exact endq rfl rfl
theorem law_Ib (hS : OldX S) (h3 : S 3 = none) {t b ks : List Int} {κ : Int} (hA : Ct (ctx.plus S) 5 [] 20000 fun r => r = .bool true) (l1 : t.length ≤ 12) (l2 : b.length ≤ 12) (hI : chkI t b ≠ 0) (hl : 60 < ks.length ∧ ks.length ≤ 70) :
    Ct (ctx.plus S) 3 [pRo t b, pn κ, pIs ks] 60000 fun r => r = .bool true := by
  obtain ⟨e, e0⟩ : ∃ e, chkI t b = e := ⟨_, rfl⟩
  have he : e ≠ 0 := fun h => hI (e0.trans h)
  have hF2 : chkF t b ks = e := by unfold chkF; rw [if_neg hI, e0]
  have hG2 : chkF t b [κ] = e := by unfold chkF; rw [if_neg hI, e0]
  refine ct_of h3 fn3 ?_
  refine ⟨by omega, ?_⟩
  refine callq rfl hA (by omega) ?_
  rintro _ rfl
  refine ⟨_, rfl, ?_⟩
  refine callq rfl (few_ct S hS) (by omega) ?_
  rintro _ (⟨-, rfl⟩ | ⟨hx, rfl⟩)
  rotate_left
  · exact absurd ⟨l1, l2⟩ hx
  refine ⟨fun _ => ?_, fun h => False.elim (by omega)⟩
  refine ⟨fun h => False.elim (by omega), fun _ => ?_⟩
  refine ⟨fun h => False.elim (by omega), fun _ => ?_⟩
  refine ⟨_, rfl, ?_⟩
  refine callq rfl (Move_ct S hS l1 l2) (by omega) ?_
  rintro _ (⟨hx, -, rfl⟩ | ⟨-, rfl⟩)
  · exact absurd (hG2.symm.trans hx) (by omega)
  rw [hG2]
  refine ⟨by omega, ?_⟩
  refine ⟨_, _, rfl, ⟨rfl, Nat.le_refl 2, rfl⟩, _, rfl, _, rfl, ?_⟩
  refine ⟨_, rfl, ?_⟩
  refine callq rfl (Follow_ct S hS l1 l2 (by omega)) (by omega) ?_
  rintro _ (⟨hx, -, -, rfl⟩ | ⟨-, rfl⟩)
  · exact absurd (hF2.symm.trans hx) (by omega)
  rw [hF2]
  refine ⟨by omega, ?_⟩
  refine ⟨_, _, rfl, ⟨rfl, Nat.le_refl 2, rfl⟩, _, rfl, _, rfl, ?_⟩
  refine ⟨_, rfl, ?_⟩
  refine callq rfl (rchkIrr_ct S hS l1 l2) (by omega) ?_
  rintro _ rfl
  rw [e0]
  refine ⟨fun h => False.elim (by omega), fun _ => ?_⟩
  refine ⟨fun h => False.elim (by omega), fun _ => ?_⟩
  refine ⟨fun h => False.elim (by omega), fun _ => ?_⟩
  refine ⟨fun h => False.elim (by omega), fun _ => ?_⟩
  refine ⟨fun _ => ?_, fun h => False.elim (by omega)⟩
  refine ⟨_, rfl, ?_⟩
  refine callq (ps := [pRo [] []]) rfl (empty_ct S hS) (by omega) ?_
  rintro _ (⟨-, rfl⟩ | ⟨hx, rfl⟩)
  rotate_left
  · exact absurd ⟨rfl, rfl⟩ hx
  refine ⟨fun h => False.elim (by omega), fun _ => ?_⟩
  refine ⟨fun _ => ?_, fun h => False.elim (by omega)⟩
  refine ⟨_, rfl, ?_⟩
  refine callq (ps := [pRo [] []]) rfl (empty_ct S hS) (by omega) ?_
  rintro _ (⟨-, rfl⟩ | ⟨hx, rfl⟩)
  rotate_left
  · exact absurd ⟨rfl, rfl⟩ hx
  refine ⟨fun h => False.elim (by omega), fun _ => ?_⟩
  refine ⟨fun h => False.elim (by omega), fun _ => ?_⟩
  refine ⟨fun _ => ?_, fun h => False.elim (by omega)⟩
  exact endq rfl rfl
theorem law_00 (hS : OldX S) (h3 : S 3 = none) {t b ks : List Int} {κ : Int} (hA : Ct (ctx.plus S) 5 [] 20000 fun r => r = .bool true) (l1 : t.length ≤ 12) (l2 : b.length ≤ 12) (hI : chkI t b = 0) (hκ : ¬ (0 ≤ κ ∧ κ ≤ 1)) (hK : chkK ks ≠ 0) (hl : ks.length ≤ 20) :
    Ct (ctx.plus S) 3 [pRo t b, pn κ, pIs ks] 60000 fun r => r = .bool true := by
  have hF : chkF t b ks = chkK ks := if_pos hI
  have hG : chkF t b [κ] = chkK [κ] := if_pos hI
  have hG2 : chkF t b [κ] = 2 := hG.trans (chkK_one.2 hκ)
  obtain ⟨f, hf⟩ : ∃ f, chkK ks = f := ⟨_, rfl⟩
  have hF2 : chkF t b ks = f := hF.trans hf
  have hf0 : f ≠ 0 := fun h => hK (hf.trans h)
  have hR := rws_of hI
  have e0 := hI
  refine ct_of h3 fn3 ?_
  refine ⟨by omega, ?_⟩
  refine callq rfl hA (by omega) ?_
  rintro _ rfl
  refine ⟨_, rfl, ?_⟩
  refine callq rfl (few_ct S hS) (by omega) ?_
  rintro _ (⟨-, rfl⟩ | ⟨hx, rfl⟩)
  rotate_left
  · exact absurd ⟨l1, l2⟩ hx
  refine ⟨fun h => False.elim (by omega), fun _ => ?_⟩
  refine ⟨fun h => False.elim (by omega), fun _ => ?_⟩
  refine ⟨_, rfl, ?_⟩
  refine callq rfl (Move_ct S hS l1 l2) (by omega) ?_
  rintro _ (⟨hx, -, rfl⟩ | ⟨-, rfl⟩)
  · exact absurd (hG2.symm.trans hx) (by omega)
  rw [hG2]
  refine ⟨by omega, ?_⟩
  refine ⟨_, _, rfl, ⟨rfl, Nat.le_refl 2, rfl⟩, _, rfl, _, rfl, ?_⟩
  refine ⟨_, rfl, ?_⟩
  refine callq rfl (Follow_ct S hS l1 l2 (by omega)) (by omega) ?_
  rintro _ (⟨hx, -, -, rfl⟩ | ⟨-, rfl⟩)
  · exact absurd (hF2.symm.trans hx) (by omega)
  rw [hF2]
  refine ⟨by omega, ?_⟩
  refine ⟨_, _, rfl, ⟨rfl, Nat.le_refl 2, rfl⟩, _, rfl, _, rfl, ?_⟩
  refine ⟨_, rfl, ?_⟩
  refine callq rfl (rchkIrr_ct S hS l1 l2) (by omega) ?_
  rintro _ rfl
  rw [e0]
  refine ⟨fun _ => ?_, fun h => False.elim (by omega)⟩
  refine callq rfl (within10_ct S hS) (by omega) ?_
  rintro _ rfl
  rw [decide_eq_false hκ]
  refine ⟨fun _ => ?_, fun h => False.elim (by omega)⟩
  refine callq rfl (rkinds_ct S hS (by omega)) (by omega) ?_
  rintro _ rfl
  rw [hf]
  refine ⟨fun h => False.elim (by omega), fun _ => ?_⟩
  refine ⟨fun h => False.elim (by omega), fun _ => ?_⟩
  refine ⟨fun _ => ?_, fun h => False.elim (by omega)⟩
  refine ⟨_, rfl, ?_⟩
  refine callq (ps := [pRo [] []]) rfl (empty_ct S hS) (by omega) ?_
  rintro _ (⟨-, rfl⟩ | ⟨hx, rfl⟩)
  rotate_left
  · exact absurd ⟨rfl, rfl⟩ hx
  refine ⟨fun h => False.elim (by omega), fun _ => ?_⟩
  refine ⟨fun _ => ?_, fun h => False.elim (by omega)⟩
  refine ⟨_, rfl, ?_⟩
  refine callq (ps := [pRo [] []]) rfl (empty_ct S hS) (by omega) ?_
  rintro _ (⟨-, rfl⟩ | ⟨hx, rfl⟩)
  rotate_left
  · exact absurd ⟨rfl, rfl⟩ hx
  refine ⟨fun h => False.elim (by omega), fun _ => ?_⟩
  refine ⟨fun h => False.elim (by omega), fun _ => ?_⟩
  refine ⟨fun _ => ?_, fun h => False.elim (by omega)⟩
  exact endq rfl rfl
theorem law_00b (hS : OldX S) (h3 : S 3 = none) {t b ks : List Int} {κ : Int} (hA : Ct (ctx.plus S) 5 [] 20000 fun r => r = .bool true) (l1 : t.length ≤ 12) (l2 : b.length ≤ 12) (hI : chkI t b = 0) (hκ : ¬ (0 ≤ κ ∧ κ ≤ 1)) (hK : chkK ks ≠ 0) (hl : 60 < ks.length ∧ ks.length ≤ 70) :
    Ct (ctx.plus S) 3 [pRo t b, pn κ, pIs ks] 60000 fun r => r = .bool true := by
  have hF : chkF t b ks = chkK ks := if_pos hI
  have hG : chkF t b [κ] = chkK [κ] := if_pos hI
  have hG2 : chkF t b [κ] = 2 := hG.trans (chkK_one.2 hκ)
  obtain ⟨f, hf⟩ : ∃ f, chkK ks = f := ⟨_, rfl⟩
  have hF2 : chkF t b ks = f := hF.trans hf
  have hf0 : f ≠ 0 := fun h => hK (hf.trans h)
  have hR := rws_of hI
  have e0 := hI
  refine ct_of h3 fn3 ?_
  refine ⟨by omega, ?_⟩
  refine callq rfl hA (by omega) ?_
  rintro _ rfl
  refine ⟨_, rfl, ?_⟩
  refine callq rfl (few_ct S hS) (by omega) ?_
  rintro _ (⟨-, rfl⟩ | ⟨hx, rfl⟩)
  rotate_left
  · exact absurd ⟨l1, l2⟩ hx
  refine ⟨fun _ => ?_, fun h => False.elim (by omega)⟩
  refine ⟨fun h => False.elim (by omega), fun _ => ?_⟩
  refine ⟨fun h => False.elim (by omega), fun _ => ?_⟩
  refine ⟨_, rfl, ?_⟩
  refine callq rfl (Move_ct S hS l1 l2) (by omega) ?_
  rintro _ (⟨hx, -, rfl⟩ | ⟨-, rfl⟩)
  · exact absurd (hG2.symm.trans hx) (by omega)
  rw [hG2]
  refine ⟨by omega, ?_⟩
  refine ⟨_, _, rfl, ⟨rfl, Nat.le_refl 2, rfl⟩, _, rfl, _, rfl, ?_⟩
  refine ⟨_, rfl, ?_⟩
  refine callq rfl (Follow_ct S hS l1 l2 (by omega)) (by omega) ?_
  rintro _ (⟨hx, -, -, rfl⟩ | ⟨-, rfl⟩)
  · exact absurd (hF2.symm.trans hx) (by omega)
  rw [hF2]
  refine ⟨by omega, ?_⟩
  refine ⟨_, _, rfl, ⟨rfl, Nat.le_refl 2, rfl⟩, _, rfl, _, rfl, ?_⟩
  refine ⟨_, rfl, ?_⟩
  refine callq rfl (rchkIrr_ct S hS l1 l2) (by omega) ?_
  rintro _ rfl
  rw [e0]
  refine ⟨fun _ => ?_, fun h => False.elim (by omega)⟩
  refine callq rfl (within10_ct S hS) (by omega) ?_
  rintro _ rfl
  rw [decide_eq_false hκ]
  refine ⟨fun _ => ?_, fun h => False.elim (by omega)⟩
  refine callq rfl (rkinds_ct S hS (by omega)) (by omega) ?_
  rintro _ rfl
  rw [hf]
  refine ⟨fun h => False.elim (by omega), fun _ => ?_⟩
  refine ⟨fun h => False.elim (by omega), fun _ => ?_⟩
  refine ⟨fun _ => ?_, fun h => False.elim (by omega)⟩
  refine ⟨_, rfl, ?_⟩
  refine callq (ps := [pRo [] []]) rfl (empty_ct S hS) (by omega) ?_
  rintro _ (⟨-, rfl⟩ | ⟨hx, rfl⟩)
  rotate_left
  · exact absurd ⟨rfl, rfl⟩ hx
  refine ⟨fun h => False.elim (by omega), fun _ => ?_⟩
  refine ⟨fun _ => ?_, fun h => False.elim (by omega)⟩
  refine ⟨_, rfl, ?_⟩
  refine callq (ps := [pRo [] []]) rfl (empty_ct S hS) (by omega) ?_
  rintro _ (⟨-, rfl⟩ | ⟨hx, rfl⟩)
  rotate_left
  · exact absurd ⟨rfl, rfl⟩ hx
  refine ⟨fun h => False.elim (by omega), fun _ => ?_⟩
  refine ⟨fun h => False.elim (by omega), fun _ => ?_⟩
  refine ⟨fun _ => ?_, fun h => False.elim (by omega)⟩
  exact endq rfl rfl
theorem law_10 (hS : OldX S) (h3 : S 3 = none) {t b ks : List Int} {κ : Int} (hA : Ct (ctx.plus S) 5 [] 20000 fun r => r = .bool true) (l1 : t.length ≤ 12) (l2 : b.length ≤ 12) (hI : chkI t b = 0) (hκ : 0 ≤ κ ∧ κ ≤ 1) (hK : chkK ks ≠ 0) (hl : ks.length ≤ 20) :
    Ct (ctx.plus S) 3 [pRo t b, pn κ, pIs ks] 60000 fun r => r = .bool true := by
  have hF : chkF t b ks = chkK ks := if_pos hI
  have hG : chkF t b [κ] = chkK [κ] := if_pos hI
  have hG2 : chkF t b [κ] = 0 := hG.trans (chkK_one.1 hκ)
  obtain ⟨f, hf⟩ : ∃ f, chkK ks = f := ⟨_, rfl⟩
  have hF2 : chkF t b ks = f := hF.trans hf
  have hf0 : f ≠ 0 := fun h => hK (hf.trans h)
  have hR := rws_of hI
  have e0 := hI
  obtain ⟨x, l, hw, hxl, hwn, hln, hwl⟩ := hR.wl (κ := κ)
  refine ct_of h3 fn3 ?_
  refine ⟨by omega, ?_⟩
  refine callq rfl hA (by omega) ?_
  rintro _ rfl
  refine ⟨_, rfl, ?_⟩
  refine callq rfl (few_ct S hS) (by omega) ?_
  rintro _ (⟨-, rfl⟩ | ⟨hx, rfl⟩)
  rotate_left
  · exact absurd ⟨l1, l2⟩ hx
  refine ⟨fun h => False.elim (by omega), fun _ => ?_⟩
  refine ⟨fun h => False.elim (by omega), fun _ => ?_⟩
  refine ⟨_, rfl, ?_⟩
  refine callq rfl (Move_ct S hS l1 l2) (by omega) ?_
  rintro _ (⟨-, -, rfl⟩ | ⟨hx, rfl⟩)
  rotate_left
  · exact absurd hG2 hx
  have hst : st1 (t, b, unitM t.length) κ = (stT κ t b, stB κ t b, stepM t.length x l) := by
    unfold st1
    rw [hw, hxl]
    exact congrArg (fun M => (stT κ t b, stB κ t b, M)) (unit_ext hwn hln hwl)
  rw [hst]
  refine ⟨by omega, ?_⟩
  refine ⟨_, _, rfl, ⟨rfl, Nat.le_refl 2, rfl⟩, _, rfl, _, rfl, ?_⟩
  refine ⟨_, rfl, ?_⟩
  refine callq rfl (Follow_ct S hS l1 l2 (by omega)) (by omega) ?_
  rintro _ (⟨hx, -, -, rfl⟩ | ⟨-, rfl⟩)
  · exact absurd (hF2.symm.trans hx) (by omega)
  rw [hF2]
  refine ⟨by omega, ?_⟩
  refine ⟨_, _, rfl, ⟨rfl, Nat.le_refl 2, rfl⟩, _, rfl, _, rfl, ?_⟩
  refine ⟨_, rfl, ?_⟩
  refine callq rfl (rchkIrr_ct S hS l1 l2) (by omega) ?_
  rintro _ rfl
  rw [e0]
  refine ⟨fun _ => ?_, fun h => False.elim (by omega)⟩
  refine callq rfl (within10_ct S hS) (by omega) ?_
  rintro _ rfl
  rw [decide_eq_true hκ]
  refine ⟨fun _ => ?_, fun h => False.elim (by omega)⟩
  refine callq rfl (rkinds_ct S hS (by omega)) (by omega) ?_
  rintro _ rfl
  rw [hf]
  refine ⟨fun h => False.elim (by omega), fun _ => ?_⟩
  refine ⟨fun h => False.elim (by omega), fun _ => ?_⟩
  refine ⟨fun h => False.elim (by omega), fun _ => ?_⟩
  refine ⟨fun _ => ?_, fun h => False.elim (by omega)⟩
  refine ⟨_, rfl, ?_⟩
  refine callq (ps := [pRo [] []]) rfl (empty_ct S hS) (by omega) ?_
  rintro _ (⟨-, rfl⟩ | ⟨hx, rfl⟩)
  rotate_left
  · exact absurd ⟨rfl, rfl⟩ hx
  refine ⟨fun h => False.elim (by omega), fun _ => ?_⟩
  refine ⟨fun _ => ?_, fun h => False.elim (by omega)⟩
  refine ⟨_, rfl, ?_⟩
  refine callq rfl (rstep_ct S hS hR hw hxl) (by omega) ?_
  rintro _ rfl
  refine ⟨by omega, ?_⟩
  refine ⟨_, _, rfl, ⟨rfl, Nat.le_refl 2, rfl⟩, _, rfl, _, rfl, ?_⟩
  refine ⟨_, rfl, ?_⟩
  refine ⟨_, rfl, ?_⟩
  have hq1 := (hR.step (κ := κ)).lt
  have hq2 := (hR.step (κ := κ)).lb
  refine callq (ps := [pRo (stT κ t b) (stB κ t b), pRo (stT κ t b) (stB κ t b)]) rfl (sameRows_ct S hS (by omega) (by omega) (by omega) (by omega)) (by omega) ?_
  rintro _ rfl
  rw [decide_eq_true ⟨rfl, rfl⟩]
  refine callq rfl (lists_ct S hS (by rw [stepM_len]; omega) (by rw [stepM_len]; omega) (fun r hr => by rw [(stepM_bd hr).1]; omega) (fun r hr => by rw [(stepM_bd hr).1]; omega)) (by omega) ?_
  rintro _ rfl
  rw [decide_eq_true rfl]
  refine ⟨fun _ => ?_, fun h => False.elim (by omega)⟩
  exact endq rfl rfl
theorem law_10b (hS : OldX S) (h3 : S 3 = none) {t b ks : List Int} {κ : Int} (hA : Ct (ctx.plus S) 5 [] 20000 fun r => r = .bool true) (l1 : t.length ≤ 12) (l2 : b.length ≤ 12) (hI : chkI t b = 0) (hκ : 0 ≤ κ ∧ κ ≤ 1) (hK : chkK ks ≠ 0) (hl : 60 < ks.length ∧ ks.length ≤ 70) :
    Ct (ctx.plus S) 3 [pRo t b, pn κ, pIs ks] 60000 fun r => r = .bool true := by
  have hF : chkF t b ks = chkK ks := if_pos hI
  have hG : chkF t b [κ] = chkK [κ] := if_pos hI
  have hG2 : chkF t b [κ] = 0 := hG.trans (chkK_one.1 hκ)
  obtain ⟨f, hf⟩ : ∃ f, chkK ks = f := ⟨_, rfl⟩
  have hF2 : chkF t b ks = f := hF.trans hf
  have hf0 : f ≠ 0 := fun h => hK (hf.trans h)
  have hR := rws_of hI
  have e0 := hI
  obtain ⟨x, l, hw, hxl, hwn, hln, hwl⟩ := hR.wl (κ := κ)
  refine ct_of h3 fn3 ?_
  refine ⟨by omega, ?_⟩
  refine callq rfl hA (by omega) ?_
  rintro _ rfl
  refine ⟨_, rfl, ?_⟩
  refine callq rfl (few_ct S hS) (by omega) ?_
  rintro _ (⟨-, rfl⟩ | ⟨hx, rfl⟩)
  rotate_left
  · exact absurd ⟨l1, l2⟩ hx
  refine ⟨fun _ => ?_, fun h => False.elim (by omega)⟩
  refine ⟨fun h => False.elim (by omega), fun _ => ?_⟩
  refine ⟨fun h => False.elim (by omega), fun _ => ?_⟩
  refine ⟨_, rfl, ?_⟩
  refine callq rfl (Move_ct S hS l1 l2) (by omega) ?_
  rintro _ (⟨-, -, rfl⟩ | ⟨hx, rfl⟩)
  rotate_left
  · exact absurd hG2 hx
  have hst : st1 (t, b, unitM t.length) κ = (stT κ t b, stB κ t b, stepM t.length x l) := by
    unfold st1
    rw [hw, hxl]
    exact congrArg (fun M => (stT κ t b, stB κ t b, M)) (unit_ext hwn hln hwl)
  rw [hst]
  refine ⟨by omega, ?_⟩
  refine ⟨_, _, rfl, ⟨rfl, Nat.le_refl 2, rfl⟩, _, rfl, _, rfl, ?_⟩
  refine ⟨_, rfl, ?_⟩
  refine callq rfl (Follow_ct S hS l1 l2 (by omega)) (by omega) ?_
  rintro _ (⟨hx, -, -, rfl⟩ | ⟨-, rfl⟩)
  · exact absurd (hF2.symm.trans hx) (by omega)
  rw [hF2]
  refine ⟨by omega, ?_⟩
  refine ⟨_, _, rfl, ⟨rfl, Nat.le_refl 2, rfl⟩, _, rfl, _, rfl, ?_⟩
  refine ⟨_, rfl, ?_⟩
  refine callq rfl (rchkIrr_ct S hS l1 l2) (by omega) ?_
  rintro _ rfl
  rw [e0]
  refine ⟨fun _ => ?_, fun h => False.elim (by omega)⟩
  refine callq rfl (within10_ct S hS) (by omega) ?_
  rintro _ rfl
  rw [decide_eq_true hκ]
  refine ⟨fun _ => ?_, fun h => False.elim (by omega)⟩
  refine callq rfl (rkinds_ct S hS (by omega)) (by omega) ?_
  rintro _ rfl
  rw [hf]
  refine ⟨fun h => False.elim (by omega), fun _ => ?_⟩
  refine ⟨fun h => False.elim (by omega), fun _ => ?_⟩
  refine ⟨fun h => False.elim (by omega), fun _ => ?_⟩
  refine ⟨fun _ => ?_, fun h => False.elim (by omega)⟩
  refine ⟨_, rfl, ?_⟩
  refine callq (ps := [pRo [] []]) rfl (empty_ct S hS) (by omega) ?_
  rintro _ (⟨-, rfl⟩ | ⟨hx, rfl⟩)
  rotate_left
  · exact absurd ⟨rfl, rfl⟩ hx
  refine ⟨fun h => False.elim (by omega), fun _ => ?_⟩
  refine ⟨fun _ => ?_, fun h => False.elim (by omega)⟩
  refine ⟨_, rfl, ?_⟩
  refine callq rfl (rstep_ct S hS hR hw hxl) (by omega) ?_
  rintro _ rfl
  refine ⟨by omega, ?_⟩
  refine ⟨_, _, rfl, ⟨rfl, Nat.le_refl 2, rfl⟩, _, rfl, _, rfl, ?_⟩
  refine ⟨_, rfl, ?_⟩
  refine ⟨_, rfl, ?_⟩
  have hq1 := (hR.step (κ := κ)).lt
  have hq2 := (hR.step (κ := κ)).lb
  refine callq (ps := [pRo (stT κ t b) (stB κ t b), pRo (stT κ t b) (stB κ t b)]) rfl (sameRows_ct S hS (by omega) (by omega) (by omega) (by omega)) (by omega) ?_
  rintro _ rfl
  rw [decide_eq_true ⟨rfl, rfl⟩]
  refine callq rfl (lists_ct S hS (by rw [stepM_len]; omega) (by rw [stepM_len]; omega) (fun r hr => by rw [(stepM_bd hr).1]; omega) (fun r hr => by rw [(stepM_bd hr).1]; omega)) (by omega) ?_
  rintro _ rfl
  rw [decide_eq_true rfl]
  refine ⟨fun _ => ?_, fun h => False.elim (by omega)⟩
  exact endq rfl rfl
theorem law_01 (hS : OldX S) (h3 : S 3 = none) {t b ks : List Int} {κ : Int} (hA : Ct (ctx.plus S) 5 [] 20000 fun r => r = .bool true) (l1 : t.length ≤ 12) (l2 : b.length ≤ 12) (hI : chkI t b = 0) (hκ : ¬ (0 ≤ κ ∧ κ ≤ 1)) (hK : chkK ks = 0) (hl : ks.length ≤ 20) :
    Ct (ctx.plus S) 3 [pRo t b, pn κ, pIs ks] 60000 fun r => r = .bool true := by
  have hF : chkF t b ks = chkK ks := if_pos hI
  have hG : chkF t b [κ] = chkK [κ] := if_pos hI
  have hG2 : chkF t b [κ] = 2 := hG.trans (chkK_one.2 hκ)
  have hF2 : chkF t b ks = 0 := hF.trans hK
  have hR := rws_of hI
  have e0 := hI
  refine ct_of h3 fn3 ?_
  refine ⟨by omega, ?_⟩
  refine callq rfl hA (by omega) ?_
  rintro _ rfl
  refine ⟨_, rfl, ?_⟩
  refine callq rfl (few_ct S hS) (by omega) ?_
  rintro _ (⟨-, rfl⟩ | ⟨hx, rfl⟩)
  rotate_left
  · exact absurd ⟨l1, l2⟩ hx
  refine ⟨fun h => False.elim (by omega), fun _ => ?_⟩
  refine ⟨fun h => False.elim (by omega), fun _ => ?_⟩
  refine ⟨_, rfl, ?_⟩
  refine callq rfl (Move_ct S hS l1 l2) (by omega) ?_
  rintro _ (⟨hx, -, rfl⟩ | ⟨-, rfl⟩)
  · exact absurd (hG2.symm.trans hx) (by omega)
  rw [hG2]
  refine ⟨by omega, ?_⟩
  refine ⟨_, _, rfl, ⟨rfl, Nat.le_refl 2, rfl⟩, _, rfl, _, rfl, ?_⟩
  refine ⟨_, rfl, ?_⟩
  refine callq rfl (Follow_ct S hS l1 l2 (by omega)) (by omega) ?_
  rintro _ (⟨-, -, hk20, rfl⟩ | ⟨hx, rfl⟩)
  rotate_left
  · exact absurd hF2 hx
  have hIn := PInv.run (ks := ks) (PInv.zero hR) ks.length (Nat.le_refl _)
  rw [List.take_length] at hIn
  have hrf := rfollow_ct S hS hR hk20
  obtain ⟨s, hs⟩ : ∃ s, runS (t, b, unitM t.length) ks = s := ⟨_, rfl⟩
  rw [hs] at hIn hrf
  rw [hs]
  refine ⟨by omega, ?_⟩
  refine ⟨_, _, rfl, ⟨rfl, Nat.le_refl 2, rfl⟩, _, rfl, _, rfl, ?_⟩
  refine ⟨_, rfl, ?_⟩
  refine callq rfl (rchkIrr_ct S hS l1 l2) (by omega) ?_
  rintro _ rfl
  rw [e0]
  refine ⟨fun _ => ?_, fun h => False.elim (by omega)⟩
  refine callq rfl (within10_ct S hS) (by omega) ?_
  rintro _ rfl
  rw [decide_eq_false hκ]
  refine ⟨fun _ => ?_, fun h => False.elim (by omega)⟩
  refine callq rfl (rkinds_ct S hS (by omega)) (by omega) ?_
  rintro _ rfl
  rw [hK]
  refine ⟨fun h => False.elim (by omega), fun _ => ?_⟩
  refine ⟨fun h => False.elim (by omega), fun _ => ?_⟩
  refine ⟨fun _ => ?_, fun h => False.elim (by omega)⟩
  refine ⟨_, rfl, ?_⟩
  refine callq (ps := [pRo [] []]) rfl (empty_ct S hS) (by omega) ?_
  rintro _ (⟨-, rfl⟩ | ⟨hx, rfl⟩)
  rotate_left
  · exact absurd ⟨rfl, rfl⟩ hx
  refine ⟨fun h => False.elim (by omega), fun _ => ?_⟩
  refine ⟨fun h => False.elim (by omega), fun _ => ?_⟩
  refine ⟨fun h => False.elim (by omega), fun _ => ?_⟩
  refine ⟨fun h => False.elim (by omega), fun _ => ?_⟩
  refine ⟨_, rfl, ?_⟩
  refine callq rfl hrf (by omega) ?_
  rintro _ rfl
  refine ⟨by omega, ?_⟩
  refine ⟨_, _, rfl, ⟨rfl, Nat.le_refl 2, rfl⟩, _, rfl, _, rfl, ?_⟩
  refine ⟨_, rfl, ?_⟩
  have hq3 := hIn.rws.lt
  have hq4 := hIn.rws.lb
  have hq5 := hIn.len
  refine callq (ps := [pRo s.1 s.2.1]) rfl (irreducible_ct S hS (by omega) (by omega) hIn.rws.chk) (by omega) ?_
  rintro _ rfl
  refine ⟨_, rfl, ?_⟩
  refine ⟨_, rfl, ?_⟩
  refine callq (ps := [pRo s.1 s.2.1, pRo s.1 s.2.1]) rfl (sameRows_ct S hS (by omega) (by omega) (by omega) (by omega)) (by omega) ?_
  rintro _ rfl
  rw [decide_eq_true ⟨rfl, rfl⟩]
  refine callq rfl (lists_ct S hS (X := s.2.2) (Y := s.2.2) (by omega) (by omega) (fun r hr => by rw [(hIn.bd r hr).1]; omega) (fun r hr => by rw [(hIn.bd r hr).1]; omega)) (by omega) ?_
  rintro _ rfl
  rw [decide_eq_true rfl]
  refine ⟨fun _ => ?_, fun h => False.elim (by omega)⟩
  exact endq rfl rfl
theorem law_11 (hS : OldX S) (h3 : S 3 = none) {t b ks : List Int} {κ : Int} (hA : Ct (ctx.plus S) 5 [] 20000 fun r => r = .bool true) (l1 : t.length ≤ 12) (l2 : b.length ≤ 12) (hI : chkI t b = 0) (hκ : 0 ≤ κ ∧ κ ≤ 1) (hK : chkK ks = 0) (hl : ks.length ≤ 20) :
    Ct (ctx.plus S) 3 [pRo t b, pn κ, pIs ks] 60000 fun r => r = .bool true := by
  have hF : chkF t b ks = chkK ks := if_pos hI
  have hG : chkF t b [κ] = chkK [κ] := if_pos hI
  have hG2 : chkF t b [κ] = 0 := hG.trans (chkK_one.1 hκ)
  have hF2 : chkF t b ks = 0 := hF.trans hK
  have hR := rws_of hI
  have e0 := hI
  obtain ⟨x, l, hw, hxl, hwn, hln, hwl⟩ := hR.wl (κ := κ)
  refine ct_of h3 fn3 ?_
  refine ⟨by omega, ?_⟩
  refine callq rfl hA (by omega) ?_
  rintro _ rfl
  refine ⟨_, rfl, ?_⟩
  refine callq rfl (few_ct S hS) (by omega) ?_
  rintro _ (⟨-, rfl⟩ | ⟨hx, rfl⟩)
  rotate_left
  · exact absurd ⟨l1, l2⟩ hx
  refine ⟨fun h => False.elim (by omega), fun _ => ?_⟩
  refine ⟨fun h => False.elim (by omega), fun _ => ?_⟩
  refine ⟨_, rfl, ?_⟩
  refine callq rfl (Move_ct S hS l1 l2) (by omega) ?_
  rintro _ (⟨-, -, rfl⟩ | ⟨hx, rfl⟩)
  rotate_left
  · exact absurd hG2 hx
  have hst : st1 (t, b, unitM t.length) κ = (stT κ t b, stB κ t b, stepM t.length x l) := by
    unfold st1
    rw [hw, hxl]
    exact congrArg (fun M => (stT κ t b, stB κ t b, M)) (unit_ext hwn hln hwl)
  rw [hst]
  refine ⟨by omega, ?_⟩
  refine ⟨_, _, rfl, ⟨rfl, Nat.le_refl 2, rfl⟩, _, rfl, _, rfl, ?_⟩
  refine ⟨_, rfl, ?_⟩
  refine callq rfl (Follow_ct S hS l1 l2 (by omega)) (by omega) ?_
  rintro _ (⟨-, -, hk20, rfl⟩ | ⟨hx, rfl⟩)
  rotate_left
  · exact absurd hF2 hx
  have hIn := PInv.run (ks := ks) (PInv.zero hR) ks.length (Nat.le_refl _)
  rw [List.take_length] at hIn
  have hrf := rfollow_ct S hS hR hk20
  obtain ⟨s, hs⟩ : ∃ s, runS (t, b, unitM t.length) ks = s := ⟨_, rfl⟩
  rw [hs] at hIn hrf
  rw [hs]
  refine ⟨by omega, ?_⟩
  refine ⟨_, _, rfl, ⟨rfl, Nat.le_refl 2, rfl⟩, _, rfl, _, rfl, ?_⟩
  refine ⟨_, rfl, ?_⟩
  refine callq rfl (rchkIrr_ct S hS l1 l2) (by omega) ?_
  rintro _ rfl
  rw [e0]
  refine ⟨fun _ => ?_, fun h => False.elim (by omega)⟩
  refine callq rfl (within10_ct S hS) (by omega) ?_
  rintro _ rfl
  rw [decide_eq_true hκ]
  refine ⟨fun _ => ?_, fun h => False.elim (by omega)⟩
  refine callq rfl (rkinds_ct S hS (by omega)) (by omega) ?_
  rintro _ rfl
  rw [hK]
  refine ⟨fun h => False.elim (by omega), fun _ => ?_⟩
  refine ⟨fun h => False.elim (by omega), fun _ => ?_⟩
  refine ⟨fun h => False.elim (by omega), fun _ => ?_⟩
  refine ⟨fun h => False.elim (by omega), fun _ => ?_⟩
  refine ⟨fun _ => ?_, fun h => False.elim (by omega)⟩
  refine ⟨_, rfl, ?_⟩
  refine callq rfl (rstep_ct S hS hR hw hxl) (by omega) ?_
  rintro _ rfl
  refine ⟨by omega, ?_⟩
  refine ⟨_, _, rfl, ⟨rfl, Nat.le_refl 2, rfl⟩, _, rfl, _, rfl, ?_⟩
  refine ⟨_, rfl, ?_⟩
  refine ⟨_, rfl, ?_⟩
  have hq1 := (hR.step (κ := κ)).lt
  have hq2 := (hR.step (κ := κ)).lb
  refine callq (ps := [pRo (stT κ t b) (stB κ t b), pRo (stT κ t b) (stB κ t b)]) rfl (sameRows_ct S hS (by omega) (by omega) (by omega) (by omega)) (by omega) ?_
  rintro _ rfl
  rw [decide_eq_true ⟨rfl, rfl⟩]
  refine callq rfl (lists_ct S hS (by rw [stepM_len]; omega) (by rw [stepM_len]; omega) (fun r hr => by rw [(stepM_bd hr).1]; omega) (fun r hr => by rw [(stepM_bd hr).1]; omega)) (by omega) ?_
  rintro _ rfl
  rw [decide_eq_true rfl]
  refine ⟨fun h => False.elim (by omega), fun _ => ?_⟩
  refine ⟨_, rfl, ?_⟩
  refine callq rfl hrf (by omega) ?_
  rintro _ rfl
  refine ⟨by omega, ?_⟩
  refine ⟨_, _, rfl, ⟨rfl, Nat.le_refl 2, rfl⟩, _, rfl, _, rfl, ?_⟩
  refine ⟨_, rfl, ?_⟩
  have hq3 := hIn.rws.lt
  have hq4 := hIn.rws.lb
  have hq5 := hIn.len
  refine callq (ps := [pRo s.1 s.2.1]) rfl (irreducible_ct S hS (by omega) (by omega) hIn.rws.chk) (by omega) ?_
  rintro _ rfl
  refine ⟨_, rfl, ?_⟩
  refine ⟨_, rfl, ?_⟩
  refine callq (ps := [pRo s.1 s.2.1, pRo s.1 s.2.1]) rfl (sameRows_ct S hS (by omega) (by omega) (by omega) (by omega)) (by omega) ?_
  rintro _ rfl
  rw [decide_eq_true ⟨rfl, rfl⟩]
  refine callq rfl (lists_ct S hS (X := s.2.2) (Y := s.2.2) (by omega) (by omega) (fun r hr => by rw [(hIn.bd r hr).1]; omega) (fun r hr => by rw [(hIn.bd r hr).1]; omega)) (by omega) ?_
  rintro _ rfl
  rw [decide_eq_true rfl]
  refine ⟨fun _ => ?_, fun h => False.elim (by omega)⟩
  exact endq rfl rfl
end Go.PI
