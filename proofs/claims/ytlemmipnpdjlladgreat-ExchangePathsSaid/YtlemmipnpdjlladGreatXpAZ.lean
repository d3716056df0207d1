/- Own work of the verifier: XpW. -/
import Derived.Test.YtlemmipnpdjlladGreatXpAY
set_option linter.all false
set_option exponentiation.threshold 3000
set_option linter.deprecated false
/- THE LAW ExchangePaths, for every input. -/
open Go.Proofs
namespace Go.PI
open IM
set_option maxRecDepth 10000
set_option maxHeartbeats 8000000
variable (S : FuncId → Option (List AV → Heap → Option (AV × Heap)))
theorem law_few (hS : OldX S) (h3 : S 3 = none) {t b ks : List Int} {κ : Int} (hA : Ct (ctx.plus S) 5 [] 20000 fun r => r = .bool true) (hx : ¬ (t.length ≤ 12 ∧ b.length ≤ 12)) :
    Ct (ctx.plus S) 3 [pRo t b, pn κ, pIs ks] 60000 fun r => r = .bool true := by
  refine ct_of h3 fn3 ?_
  refine ⟨by omega, ?_⟩
  refine callq rfl hA (by omega) ?_
  rintro _ rfl
  refine ⟨_, rfl, ?_⟩
  refine callq rfl (few_ct S hS) (by omega) ?_
  rintro _ (⟨h, rfl⟩ | ⟨-, rfl⟩)
  · exact absurd h hx
  exact endq rfl rfl
theorem law_mid (hS : OldX S) (h3 : S 3 = none) {t b ks : List Int} {κ : Int} (hA : Ct (ctx.plus S) 5 [] 20000 fun r => r = .bool true) (hl : 20 < ks.length ∧ ks.length ≤ 60) :
    Ct (ctx.plus S) 3 [pRo t b, pn κ, pIs ks] 60000 fun r => r = .bool true := by
  refine ct_of h3 fn3 ?_
  refine ⟨by omega, ?_⟩
  refine callq rfl hA (by omega) ?_
  rintro _ rfl
  refine ⟨_, rfl, ?_⟩
  refine callq rfl (few_ct S hS) (by omega) ?_
  rintro _ (⟨h, rfl⟩ | ⟨-, rfl⟩)
  · refine ⟨fun _ => ?_, fun h => False.elim (by omega)⟩
    refine ⟨fun _ => ?_, fun h => False.elim (by omega)⟩
    exact endq rfl rfl
  · exact endq rfl rfl
theorem law_far (hS : OldX S) (h3 : S 3 = none) {t b ks : List Int} {κ : Int} (hA : Ct (ctx.plus S) 5 [] 20000 fun r => r = .bool true) (hl : 70 < ks.length) :
    Ct (ctx.plus S) 3 [pRo t b, pn κ, pIs ks] 60000 fun r => r = .bool true := by
  refine ct_of h3 fn3 ?_
  refine ⟨by omega, ?_⟩
  refine callq rfl hA (by omega) ?_
  rintro _ rfl
  refine ⟨_, rfl, ?_⟩
  refine callq rfl (few_ct S hS) (by omega) ?_
  rintro _ (⟨h, rfl⟩ | ⟨-, rfl⟩)
  · refine ⟨fun _ => ?_, fun h => False.elim (by omega)⟩
    refine ⟨fun h => False.elim (by omega), fun _ => ?_⟩
    refine ⟨fun _ => ?_, fun h => False.elim (by omega)⟩
    exact endq rfl rfl
  · exact endq rfl rfl
theorem paths_ct (hS : OldX S) (h3 : S 3 = none) (hA : Ct (ctx.plus S) 5 [] 20000 fun r => r = .bool true) (t b ks : List Int) (κ : Int) :
    Ct (ctx.plus S) 3 [pRo t b, pn κ, pIs ks] 60000 fun r => r = .bool true := by
  by_cases hf : t.length ≤ 12 ∧ b.length ≤ 12
  rotate_left
  · exact law_few S hS h3 hA hf
  by_cases h70 : 70 < ks.length
  · exact law_far S hS h3 hA h70
  by_cases hm : 20 < ks.length ∧ ks.length ≤ 60
  · exact law_mid S hS h3 hA hm
  by_cases hl : ks.length ≤ 20
  · by_cases hI : chkI t b = 0
    · by_cases hκ : 0 ≤ κ ∧ κ ≤ 1
      · by_cases hK : chkK ks = 0
        · exact law_11 S hS h3 hA hf.1 hf.2 hI hκ hK hl
        · exact law_10 S hS h3 hA hf.1 hf.2 hI hκ hK hl
      · by_cases hK : chkK ks = 0
        · exact law_01 S hS h3 hA hf.1 hf.2 hI hκ hK hl
        · exact law_00 S hS h3 hA hf.1 hf.2 hI hκ hK hl
    · exact law_I S hS h3 hA hf.1 hf.2 hI hl
  · have hl2 : 60 < ks.length ∧ ks.length ≤ 70 := ⟨by omega, by omega⟩
    by_cases hI : chkI t b = 0
    · have hK : chkK ks ≠ 0 := fun h => by have := (kok_len h).1; omega
      by_cases hκ : 0 ≤ κ ∧ κ ≤ 1
      · exact law_10b S hS h3 hA hf.1 hf.2 hI hκ hK hl2
      · exact law_00b S hS h3 hA hf.1 hf.2 hI hκ hK hl2
    · exact law_Ib S hS h3 hA hf.1 hf.2 hI hl2
theorem few_any (hS : OldX S) {n1 n2 : Nat} {c1 c2 : List PV} : Ct (ctx.plus S) 6 [.agg [.lst n1 c1, .lst n2 c2]] 1 fun r => ((n1 ≤ 12 ∧ n2 ≤ 12) ∧ r = .bool true) ∨ (¬ (n1 ≤ 12 ∧ n2 ≤ 12) ∧ r = .bool false) := by
  refine ct_of (hS 6 (by decide)) fn6 ?_
  refine ⟨by omega, ?_⟩
  refine ⟨_, rfl, ?_⟩
  refine ⟨fun h1 => ?_, fun h1 => ?_⟩
  · refine ⟨_, rfl, ?_⟩
    refine ⟨fun h2 => ?_, fun h2 => ?_⟩
    · exact endq rfl (.inl ⟨⟨by omega, by omega⟩, rfl⟩)
    · exact endq rfl (.inr ⟨by omega, rfl⟩)
  · exact endq rfl (.inr ⟨by omega, rfl⟩)
theorem few_anyL (hS : OldX S) (h3 : S 3 = none) {n1 n2 n3 : Nat} {c1 c2 c3 : List PV} {κ : Int} (hA : Ct (ctx.plus S) 5 [] 20000 fun r => r = .bool true) (hx : ¬ (n1 ≤ 12 ∧ n2 ≤ 12)) :
    Ct (ctx.plus S) 3 [.agg [.lst n1 c1, .lst n2 c2], pn κ, .lst n3 c3] 60000 fun r => r = .bool true := by
  refine ct_of h3 fn3 ?_
  refine ⟨by omega, ?_⟩
  refine callq rfl hA (by omega) ?_
  rintro _ rfl
  refine ⟨_, rfl, ?_⟩
  refine callq rfl (few_any S hS) (by omega) ?_
  rintro _ (⟨h, rfl⟩ | ⟨-, rfl⟩)
  · exact absurd h hx
  exact endq rfl rfl
theorem far_anyL (hS : OldX S) (h3 : S 3 = none) {n1 n2 n3 : Nat} {c1 c2 c3 : List PV} {κ : Int} (hA : Ct (ctx.plus S) 5 [] 20000 fun r => r = .bool true) (hl : 70 < n3) :
    Ct (ctx.plus S) 3 [.agg [.lst n1 c1, .lst n2 c2], pn κ, .lst n3 c3] 60000 fun r => r = .bool true := by
  refine ct_of h3 fn3 ?_
  refine ⟨by omega, ?_⟩
  refine callq rfl hA (by omega) ?_
  rintro _ rfl
  refine ⟨_, rfl, ?_⟩
  refine callq rfl (few_any S hS) (by omega) ?_
  rintro _ (⟨h, rfl⟩ | ⟨-, rfl⟩)
  · refine ⟨fun _ => ?_, fun h => False.elim (by omega)⟩
    refine ⟨fun h => False.elim (by omega), fun _ => ?_⟩
    refine ⟨fun _ => ?_, fun h => False.elim (by omega)⟩
    exact endq rfl rfl
  · exact endq rfl rfl
/-- slices of which only the length is seen if they are long -/
theorem paths_any (hS : OldX S) (h3 : S 3 = none) (hA : Ct (ctx.plus S) 5 [] 20000 fun r => r = .bool true) {n1 n2 n3 : Nat} {c1 c2 c3 : List PV} (κ : Int)
    (h1 : n1 ≤ 1000 → ∃ xs, PV.lst n1 c1 = pIs xs) (h2 : n2 ≤ 1000 → ∃ xs, PV.lst n2 c2 = pIs xs) (h4 : n3 ≤ 1000 → ∃ xs, PV.lst n3 c3 = pIs xs) :
    Ct (ctx.plus S) 3 [.agg [.lst n1 c1, .lst n2 c2], pn κ, .lst n3 c3] 60000 fun r => r = .bool true := by
  by_cases hf : n1 ≤ 12 ∧ n2 ≤ 12
  rotate_left
  · exact few_anyL S hS h3 hA hf
  by_cases hl : 70 < n3
  · exact far_anyL S hS h3 hA hl
  obtain ⟨t, ht⟩ := h1 (by omega)
  obtain ⟨b, hb⟩ := h2 (by omega)
  obtain ⟨ks, hk⟩ := h4 (by omega)
  rw [ht, hb, hk]
  exact paths_ct S hS h3 hA t b ks κ
end Go.PI
