/- Own work of the verifier: XpM XpN XpO XpP XpQ XpR XpS. -/
import Derived.Test.YtlemmipnpdjlladGreatXpAV
set_option linter.all false
set_option exponentiation.threshold 3000
set_option linter.deprecated false
/- MATRICES: the reference's unit; a step's matrix, the program's. -/
open Go.Proofs
namespace Go.PI
open IM
set_option maxRecDepth 10000
set_option maxHeartbeats 4000000
variable (S : FuncId → Option (List AV → Heap → Option (AV × Heap)))
theorem fn33 : ctx.fn 33 = some c33 := by kernel_rfl
theorem runit_cm (hS : OldX S) {n : Nat} {σ : List StB} (hn : n ≤ 12) : Cm (ctx.plus S) 33 [pn n] σ 13 fun r σ' => r = .own σ.length 0 n n 1 ∧ Mx σ' σ.length n (unitM n) ∧ σ'.length = σ.length + 1 + n ∧ ∀ (i : Nat) (b : StB), σ[i]? = some b → σ'[i]? = some b := by
  refine cm_of Omx (hS 33 (by decide)) fn33 fun c k0 hc => ?_
  refine ⟨by omega, ⟨by omega, by omega, by omega⟩, _, fillc_zero (f := rwOf σ.length n), ?_⟩
  refine ⟨fun m s => ∃ (i : Nat) (σ' : List StB) (T : List PV), s = ⟨T, σ', k0 + 1 + i⟩ ∧ Gt T 24 [(0, pn n), (3, .own σ.length 0 n n 1), (4, pn i)] ∧ m = n - i ∧ i ≤ n ∧ σ'.length = σ.length + 1 + i ∧ σ'[σ.length]? = some (.liv 22 (fillc (rwOf σ.length n) .nils n (List.range i))) ∧ (∀ q, q < i → σ'[σ.length + 1 + q]? = some (.live 3 ((unitR n q).map pn))) ∧ (∀ (i : Nat) (b : StB), σ[i]? = some b → σ'[i]? = some b), ⟨_, ci ⟨0, _, _, rfl, ⟨rfl, rfl, rfl, rfl, trivial⟩, rfl, Nat.zero_le _, by simp, push_get, fun q h => by omega, fun i b h => push_old h⟩⟩, ?_⟩
  rintro _ s ⟨i, σ', T, rfl, hT, rfl, hi, hlen, htop, hrow, hold⟩
  obtain ⟨J, rfl⟩ := gt_open hT
  clear hT
  refine ⟨fun hlt => ?_, fun hge => ?_⟩
  · have hr : PV.own σ'.length 0 n n 1 = rwOf σ.length n i := by unfold rwOf; rw [hlen]
    have hL : (List.range i).length = i := List.length_range
    have hnx : ∀ q, q = i → pspl (fillc (rwOf σ.length n) .nils n (List.range i)) q [PV.own σ'.length 0 n n 1] = fillc (rwOf σ.length n) .nils n (List.range (i + 1)) := fun q hq => by
      rw [hr, fillc_next (by omega) (by omega), ← List.range_succ]
    refine ⟨by omega, ⟨by omega, by omega, by omega⟩, _, rep_flat n, ?_⟩
    refine ⟨⟨by omega, by omega⟩, ?_⟩
    refine ⟨_, _, push_old htop, ⟨rfl, by rw [fillc_len (by omega)]; show 0 + i * 1 + 1 ≤ n; omega, rfl⟩, _, hnx (0 + i * 1) (by omega), _, rfl, ?_⟩
    refine ⟨⟨by omega, by omega⟩, ?_⟩
    have hj : ((σ' ++ [StB.live 3 ((List.replicate n (0 : Int)).map pn)]).set σ.length (.liv 22 (fillc (rwOf σ.length n) .nils n (List.range (i + 1)))))[σ.length]? = some (.liv 22 (fillc (rwOf σ.length n) .nils n (List.range (i + 1)))) := by
      rw [List.getElem?_set_self (by rw [List.length_append]; omega)]
    refine ⟨_, load_liv hj rfl (show (fillc (rwOf σ.length n) .nils n (List.range (i + 1)))[0 + i * 1]? = some (rwOf σ.length n i) from by
      have := fillc_get (f := rwOf σ.length n) (z := PV.nils) (n := n) (L := List.range i) (x := i) (by omega)
      rw [hL, ← List.range_succ] at this
      rw [Nat.zero_add, Nat.mul_one]
      exact this), ?_⟩
    refine ⟨⟨by omega, by omega⟩, ?_⟩
    obtain ⟨τ, hτ⟩ : ∃ τ, ((σ' ++ [StB.live 3 ((List.replicate n (0 : Int)).map pn)]).set σ.length (.liv 22 (fillc (rwOf σ.length n) .nils n (List.range (i + 1))))) = τ := ⟨_, rfl⟩
    rw [hτ] at hj
    have hτl : τ.length = σ.length + 1 + i + 1 := by rw [← hτ, List.length_set, List.length_append, hlen]; rfl
    have hrw : τ[σ.length + 1 + i]? = some (.live 3 ((List.replicate n (0 : Int)).map pn)) := by
      rw [← hτ, List.getElem?_set_ne (by omega)]; exact push_at (by omega)
    have hro : ∀ q, q < i → τ[σ.length + 1 + q]? = some (.live 3 ((unitR n q).map pn)) := fun q hq => by
      rw [← hτ, List.getElem?_set_ne (by omega)]; exact push_old (hrow q hq)
    have hso : ∀ (j : Nat) (b : StB), σ[j]? = some b → τ[j]? = some b := fun j b hb => by
      have := (List.getElem?_eq_some_iff.1 hb).1
      rw [← hτ, List.getElem?_set_ne (by omega)]; exact push_old (hold j b hb)
    have hput : ∀ q, q = i → pspl ((List.replicate n (0 : Int)).map pn) q [pn 1] = (unitR n i).map pn := fun q hq => by rw [hq]; exact unit_put (by omega)
    refine ⟨_, _, (by rw [hτ]; exact hrw), ⟨rfl, by rw [List.length_map, List.length_replicate]; show 0 + i * 1 + 1 ≤ n; omega, rfl⟩, _, hput (0 + i * 1) (by omega), _, rfl, ?_⟩
    rw [hτ]
    refine ⟨⟨by omega, by omega⟩, ?_⟩
    refine ⟨_, by omega, ci ⟨i + 1, _, _, rfl, ⟨rfl, rfl, rfl, rfl, trivial⟩, rfl, by omega, by rw [List.length_set, hτl]; rfl, ?_, fun q hq => ?_, fun j b hb => ?_⟩⟩
    · rw [List.getElem?_set_ne (by omega)]; exact hj
    · by_cases hqi : q = i
      · subst hqi
        rw [List.getElem?_set_self (by omega)]
      · rw [List.getElem?_set_ne (by omega)]; exact hro q (by omega)
    · have := (List.getElem?_eq_some_iff.1 hb).1
      rw [List.getElem?_set_ne (by omega)]; exact hso j b hb
  · have hin : i = n := by omega
    subst hin
    refine endm [] (by dsimp only; omega) ?_
    refine ⟨rfl, ⟨?_, fun q r hq => ?_⟩, hlen, hold⟩
    · rw [htop, fillc_full List.length_range]
      simp [unitM]
    · obtain ⟨h1, rfl⟩ := unitM_get hq
      exact ⟨by simp [unitR], hrow q h1⟩
def extR (w l : Nat) (r : List Int) : List Int := r.set l (r.getD l 0 + r.getD w 0)
theorem fn58 : ctx.fn 58 = some c58 := by kernel_rfl
theorem ext_cm (hS : OldX S) {σ : List StB} {j n w l : Nat} {M : List (List Int)} (hM : Mx σ j n M) (hMl : M.length = n) (hn : n ≤ 12) (hw : w < n) (hl : l < n) (hb : ∀ r ∈ M, In64 (r.getD l 0 + r.getD w 0)) :
    Cm (ctx.plus S) 58 [.own j 0 n n 1, pn w, pn l] σ 0 fun _ σ' => Mx σ' j n (M.map (extR w l)) ∧ σ'.length = σ.length ∧ ∀ (i : Nat) (b : StB), (i < j + 1 ∨ j + 1 + n ≤ i) → σ[i]? = some b → σ'[i]? = some b := by
  refine cm_of Omx (hS 58 (by decide)) fn58 fun c k0 hc => ?_
  refine ⟨fun m s => ∃ (i : Nat) (σ' : List StB) (T : List PV), s = ⟨T, σ', k0⟩ ∧ Gt T 25 [(1, pn w), (2, pn l), (8, .own j 0 n n 1), (9, pn n), (10, pn i)] ∧ m = n - i ∧ i ≤ n ∧ σ'.length = σ.length ∧ (∀ (q : Nat) (r : List Int), M[q]? = some r → σ'[j + 1 + q]? = some (.live 3 ((if q < i then extR w l r else r).map pn))) ∧ (∀ (i : Nat) (b : StB), (i < j + 1 ∨ j + 1 + n ≤ i) → σ[i]? = some b → σ'[i]? = some b), ⟨_, ci ⟨0, _, _, rfl, ⟨rfl, rfl, rfl, rfl, rfl, rfl, trivial⟩, rfl, Nat.zero_le _, rfl, fun q r h => by rw [if_neg (by omega)]; exact (hM.row q r h).2, fun i b _ h => h⟩⟩, ?_⟩
  rintro _ s ⟨i, σ', T, rfl, hT, rfl, hi, hlen, hrow, hold⟩
  obtain ⟨J, rfl⟩ := gt_open hT
  clear hT
  refine ⟨fun hlt => ?_, fun hge => ?_⟩
  · obtain ⟨r, hr⟩ := xs_getM (xs := M) (i := i) (by omega)
    have hrl := (hM.row i r hr).1
    have htop : σ'[j]? = some (.liv 22 ((List.range n).map (rwOf j n))) := hold j _ (.inl (by omega)) (hMl ▸ hM.top)
    have hri := hrow i r hr
    rw [if_neg (by omega)] at hri
    have hjl := (List.getElem?_eq_some_iff.1 hri).1
    refine ⟨⟨by omega, by omega⟩, ?_⟩
    refine ⟨_, load_liv htop rfl (show ((List.range n).map (rwOf j n))[0 + i * 1]? = some (rwOf j n i) from by
      rw [Nat.zero_add, Nat.mul_one, List.getElem?_map, List.getElem?_range (by omega)]; rfl), ?_⟩
    have gl : r[l]? = some (r.getD l 0) := get_at (by omega)
    have gw : r[w]? = some (r.getD w 0) := get_at (by omega)
    have hin := hb r (List.mem_of_getElem? hr)
    refine ⟨by kernel_rfl, ?_⟩
    refine ⟨⟨by omega, by omega⟩, ?_⟩
    refine ⟨_, load_k rfl rfl (contOf_live hri) (at_map gl) (by show 0 + l * 1 = l; omega), rfl, ?_⟩
    refine ⟨⟨by omega, by omega⟩, ?_⟩
    refine ⟨_, load_k rfl rfl (contOf_live hri) (at_map gw) (by show 0 + w * 1 = w; omega), rfl, ?_⟩
    refine ⟨hin, ?_⟩
    refine ⟨⟨by omega, by omega⟩, ?_⟩
    have hput : ∀ q, q = l → pspl (r.map pn) q [pn (r.getD l 0 + r.getD w 0)] = (extR w l r).map pn := fun q hq => by
      rw [hq, spl_one (by rw [List.length_map]; omega)]; unfold extR; rw [List.map_set]
    refine ⟨_, _, hri, ⟨rfl, by rw [List.length_map]; show 0 + l * 1 + 1 ≤ _; omega, rfl⟩, _, hput (0 + l * 1) (by omega), _, rfl, ?_⟩
    refine ⟨⟨by omega, by omega⟩, ?_⟩
    refine ⟨_, by omega, ci ⟨i + 1, _, _, rfl, ⟨rfl, rfl, rfl, rfl, rfl, rfl, trivial⟩, rfl, by omega, by rw [List.length_set, hlen], fun q r' hq => ?_, fun i' b h1 hb' => ?_⟩⟩
    · by_cases hqi : q = i
      · subst hqi
        rw [hr] at hq
        cases hq
        rw [List.getElem?_set_self hjl, if_pos (by omega)]
      · rw [List.getElem?_set_ne (by omega), hrow q r' hq]
        by_cases h : q < i
        · rw [if_pos h, if_pos (by omega)]
        · rw [if_neg h, if_neg (by omega)]
    · rw [List.getElem?_set_ne (by omega)]; exact hold i' b h1 hb'
  · have hin : i = n := by omega
    subst hin
    refine endm [] (by dsimp only; omega) ?_
    refine ⟨⟨?_, fun q r hq => ?_⟩, hlen, hold⟩
    · rw [List.length_map]; exact hold j _ (.inl (by omega)) hM.top
    · rw [List.getElem?_map] at hq
      cases h : M[q]? with
      | none => rw [h] at hq; cases hq
      | some r' =>
        rw [h] at hq
        cases hq
        have := hrow q r' h
        have hql := (List.getElem?_eq_some_iff.1 h).1
        rw [if_pos (by omega)] at this
        exact ⟨by unfold extR; rw [List.length_set]; exact (hM.row q r' h).1, this⟩
end Go.PI
/- PRODUCTS of matrices: the reference's. -/
open Go.Proofs
namespace Go.PI
open IM
set_option maxRecDepth 10000
set_option maxHeartbeats 4000000
variable (S : FuncId → Option (List AV → Heap → Option (AV × Heap)))
def dotT (r : List Int) (B : List (List Int)) (c : Nat) : Nat → Int
  | 0 => 0
  | k + 1 => dotT r B c k + r.getD k 0 * (B.getD k []).getD c 0
def timesR (n : Nat) (B : List (List Int)) (r : List Int) : List Int := (List.range n).map fun c => dotT r B c n
def rowT (n : Nat) (B : List (List Int)) (r : List Int) (j : Nat) : List Int := (List.range n).map fun c => if c < j then dotT r B c n else 0
def rowC (n : Nat) (B : List (List Int)) (r : List Int) (j k : Nat) : List Int := (rowT n B r j).set j (dotT r B j k)
section
variable {n : Nat} {B : List (List Int)} {r : List Int} {j k : Nat}
theorem rowT_len : (rowT n B r j).length = n := by simp [rowT]
theorem rowC_len : (rowC n B r j k).length = n := by unfold rowC; rw [List.length_set, rowT_len]
theorem rowT_zero : rowT n B r 0 = List.replicate n 0 := by
  unfold rowT
  simp only [Nat.not_lt_zero, if_false]
  rw [List.map_const', List.length_range]
theorem rowT_full : rowT n B r n = timesR n B r := by
  unfold rowT timesR
  refine List.map_congr_left fun c hc => ?_
  rw [if_pos (List.mem_range.1 hc)]
theorem rowC_get (h : j < n) : (rowC n B r j k)[j]? = some (dotT r B j k) := by
  unfold rowC
  rw [List.getElem?_set_self (by rw [rowT_len]; exact h)]
theorem rowC_next : (rowC n B r j k).set j (dotT r B j (k + 1)) = rowC n B r j (k + 1) := by
  unfold rowC
  rw [List.set_set]
theorem rowT_get {i : Nat} (h : i < n) : (rowT n B r j)[i]? = some (if i < j then dotT r B i n else 0) := by
  unfold rowT
  rw [List.getElem?_map, List.getElem?_range h]
  rfl
theorem rowC_zero : rowC n B r j 0 = rowT n B r j := by
  refine List.ext_getElem? fun i => ?_
  unfold rowC
  by_cases hij : j = i
  · subst hij
    by_cases hjn : j < n
    · rw [List.getElem?_set_self (by rw [rowT_len]; exact hjn), rowT_get hjn, if_neg (by omega)]; rfl
    · rw [List.getElem?_eq_none (by rw [List.length_set, rowT_len]; omega), List.getElem?_eq_none (by rw [rowT_len]; omega)]
  · rw [List.getElem?_set_ne hij]
theorem rowC_full : rowC n B r j n = rowT n B r (j + 1) := by
  refine List.ext_getElem? fun i => ?_
  unfold rowC
  by_cases hin : i < n
  · by_cases hij : j = i
    · subst hij
      rw [List.getElem?_set_self (by rw [rowT_len]; exact hin), rowT_get hin, if_pos (by omega)]
    · rw [List.getElem?_set_ne hij, rowT_get hin, rowT_get hin]
      by_cases h : i < j
      · rw [if_pos h, if_pos (by omega)]
      · rw [if_neg h, if_neg (by omega)]
  · rw [List.getElem?_eq_none (by rw [List.length_set, rowT_len]; omega), List.getElem?_eq_none (by rw [rowT_len]; omega)]
end
theorem dotT_bd {r : List Int} {B : List (List Int)} {c : Nat} (hr : ∀ a ∈ r, 0 ≤ a ∧ a ≤ 2000000) (hB : ∀ s ∈ B, ∀ b ∈ s, 0 ≤ b ∧ b ≤ 1) : ∀ k, 0 ≤ dotT r B c k ∧ dotT r B c k ≤ 2000000 * k
  | 0 => ⟨Int.le_refl 0, by show (0 : Int) ≤ _; omega⟩
  | k + 1 => by
    have ih := dotT_bd (c := c) hr hB k
    have ha : 0 ≤ r.getD k 0 ∧ r.getD k 0 ≤ 2000000 := by
      rw [List.getD_eq_getElem?_getD]
      cases h : r[k]? with
      | none => exact ⟨Int.le_refl 0, by decide⟩
      | some a => exact hr a (List.mem_of_getElem? h)
    have hb : 0 ≤ (B.getD k []).getD c 0 ∧ (B.getD k []).getD c 0 ≤ 1 := by
      rw [List.getD_eq_getElem?_getD (l := B)]
      cases h : B[k]? with
      | none =>
        show (0 : Int) ≤ 0 ∧ (0 : Int) ≤ 1
        exact ⟨Int.le_refl 0, by decide⟩
      | some s =>
        show 0 ≤ s.getD c 0 ∧ s.getD c 0 ≤ 1
        rw [List.getD_eq_getElem?_getD]
        cases h2 : s[c]? with
        | none => exact ⟨Int.le_refl 0, by decide⟩
        | some b => exact hB s (List.mem_of_getElem? h) b (List.mem_of_getElem? h2)
    have h1 := Int.mul_nonneg ha.1 hb.1
    have h2 := Int.mul_le_mul_of_nonneg_left hb.2 ha.1
    show 0 ≤ _ + _ ∧ _ + _ ≤ _
    omega
theorem fn36 : ctx.fn 36 = some c36 := by kernel_rfl
theorem times_ct (hS : OldX S) {A B : List (List Int)} {n : Nat} (hn : 1 ≤ n ∧ n ≤ 12) (hAl : A.length ≤ 12) (hBl : B.length = n) (hA : ∀ r ∈ A, r.length = n ∧ ∀ a ∈ r, 0 ≤ a ∧ a ≤ 2000000) (hB : ∀ r ∈ B, r.length = n ∧ ∀ b ∈ r, 0 ≤ b ∧ b ≤ 1) :
    Ct (ctx.plus S) 36 [pM A, pM B] 60 fun r => r = pM (A.map (timesR n B)) := by
  have hB2 : ∀ s ∈ B, ∀ b ∈ s, 0 ≤ b ∧ b ≤ 1 := fun s hs => (hB s hs).2
  refine ct_of (hS 36 (by decide)) fn36 ?_
  refine ⟨fun m s => ∃ (i k : Nat) (v : PV) (σ : List StB) (T : List PV), s = ⟨T, σ, k⟩ ∧ Gt T 61 [(0, pM A), (1, pM B), (5, v), (6, pn i)] ∧ m = A.length - i ∧ i ≤ A.length ∧ k ≤ 3 * i ∧ Hid (Gr pIs 22 v σ ((A.take i).map (timesR n B))), ⟨_, ci ⟨0, 0, .nils, [], _, rfl, ⟨rfl, rfl, rfl, rfl, rfl, trivial⟩, rfl, Nat.zero_le _, Nat.le_refl _, ⟨.nil⟩⟩⟩, ?_⟩
  rintro _ s ⟨i, k, v, σ, T, rfl, hT, rfl, hi, hk, hg⟩
  obtain ⟨J, rfl⟩ := gt_open hT
  clear hT
  refine ⟨fun hlt => ?_, fun hge => ?_⟩
  · obtain ⟨r, hr⟩ := xs_getM (xs := A) (i := i) (by omega)
    obtain ⟨b0, hb0⟩ := xs_getM (xs := B) (i := 0) (by omega)
    have hrA := hA r (List.mem_of_getElem? hr)
    have hb0l := (hB b0 (List.mem_of_getElem? hb0)).1
    have hdb := fun c => dotT_bd (r := r) (B := B) (c := c) hrA.2 hB2
    refine ⟨⟨⟨by omega, by omega⟩, len_map_le (by omega)⟩, ?_⟩
    refine ⟨_, ld (at_map hb0) rfl, ?_⟩
    refine ⟨by omega, ⟨by omega, by omega, by omega⟩, _, rep_flat b0.length, ?_⟩
    rw [hb0l]
    refine ⟨fun m s => ∃ (j : Nat) (T : List PV), s = ⟨T, σ ++ [.live 3 ((rowT n B r j).map pn)], k + 1⟩ ∧ Gt T 61 [(0, pM A), (1, pM B), (5, v), (6, pn i), (7, .own σ.length 0 n n 1), (8, pn j)] ∧ m = n - j ∧ j ≤ n, ⟨_, ci ⟨0, _, by rw [rowT_zero], ⟨rfl, rfl, rfl, rfl, rfl, rfl, rfl, trivial⟩, rfl, Nat.zero_le _⟩⟩, ?_⟩
    rintro _ s ⟨j, T, rfl, hT, rfl, hj⟩
    obtain ⟨J2, rfl⟩ := gt_open hT
    clear hT
    refine ⟨fun hlt2 => ?_, fun hge2 => ?_⟩
    · refine ⟨fun m s => ∃ (q : Nat) (T : List PV), s = ⟨T, σ ++ [.live 3 ((rowC n B r j q).map pn)], k + 1⟩ ∧ Gt T 61 [(0, pM A), (1, pM B), (5, v), (6, pn i), (7, .own σ.length 0 n n 1), (8, pn j), (9, pn q)] ∧ m = n - q ∧ q ≤ n, ⟨_, ci ⟨0, _, by rw [rowC_zero], ⟨rfl, rfl, rfl, rfl, rfl, rfl, rfl, rfl, trivial⟩, rfl, Nat.zero_le _⟩⟩, ?_⟩
      rintro _ s ⟨q, T, rfl, hT, rfl, hq⟩
      obtain ⟨J3, rfl⟩ := gt_open hT
      clear hT
      refine ⟨fun hlt3 => ?_, fun hge3 => ?_⟩
      · obtain ⟨s, hs⟩ := xs_getM (xs := B) (i := q) (by omega)
        have hsl := (hB s (List.mem_of_getElem? hs)).1
        have ga : r[q]? = some (r.getD q 0) := get_at (by omega)
        have gb : s[j]? = some (s.getD j 0) := get_at (by omega)
        have hsd : B.getD q [] = s := by rw [List.getD_eq_getElem?_getD, hs]; rfl
        have ha := hrA.2 _ (List.mem_of_getElem? ga)
        have hb := hB2 s (List.mem_of_getElem? hs) _ (List.mem_of_getElem? gb)
        have h1 := Int.mul_nonneg ha.1 hb.1
        have h2 := Int.mul_le_mul_of_nonneg_left hb.2 ha.1
        have hd := hdb j q
        have hnx : dotT r B j q + r.getD q 0 * s.getD j 0 = dotT r B j (q + 1) := by show _ = _ + _ * (B.getD q []).getD j 0; rw [hsd]
        refine ⟨by kernel_rfl, ?_⟩
        refine ⟨⟨by omega, by omega⟩, ?_⟩
        refine ⟨_, load_k rfl rfl push_cont (at_map (rowC_get (k := q) (by omega))) (by show 0 + j * 1 = j; omega), rfl, ?_⟩
        refine ⟨⟨⟨by omega, by omega⟩, len_map_le (by omega)⟩, ?_⟩
        refine ⟨_, ld (at_map hr) (by show _ * 1 = i; omega), rfl, ?_⟩
        refine ⟨⟨⟨by omega, by omega⟩, len_map_le (by omega)⟩, ?_⟩
        refine ⟨_, ld (at_map ga) (by show _ * 1 = q; omega), rfl, ?_⟩
        refine ⟨⟨⟨by omega, by omega⟩, len_map_le (by omega)⟩, ?_⟩
        refine ⟨_, ld (at_map hs) (by show _ * 1 = q; omega), rfl, ?_⟩
        refine ⟨⟨⟨by omega, by omega⟩, len_map_le (by omega)⟩, ?_⟩
        refine ⟨_, ld (at_map gb) (by show _ * 1 = j; omega), rfl, ?_⟩
        refine ⟨⟨by omega, by omega⟩, ?_⟩
        refine ⟨⟨by omega, by omega⟩, ?_⟩
        refine ⟨⟨by omega, by omega⟩, ?_⟩
        have hput : ∀ o, o = j → pspl ((rowC n B r j q).map pn) o [pn (dotT r B j q + r.getD q 0 * s.getD j 0)] = (rowC n B r j (q + 1)).map pn := fun o ho => by
          rw [ho, hnx, spl_one (by rw [List.length_map, rowC_len]; omega), ← rowC_next, List.map_set]
        refine ⟨_, _, push_get, ⟨rfl, by rw [List.length_map, rowC_len]; show 0 + j * 1 + 1 ≤ n; omega, rfl⟩, _, hput (0 + j * 1) (by omega), _, push_set, ?_⟩
        refine ⟨⟨by omega, by omega⟩, ?_⟩
        exact ⟨_, by omega, ci ⟨q + 1, _, rfl, ⟨rfl, rfl, rfl, rfl, rfl, rfl, rfl, rfl, trivial⟩, rfl, by omega⟩⟩
      · have hqn : q = n := by omega
        subst hqn
        refine ⟨⟨by omega, by omega⟩, ?_⟩
        exact ⟨_, by omega, ci ⟨j + 1, _, by rw [rowC_full], ⟨rfl, rfl, rfl, rfl, rfl, rfl, rfl, trivial⟩, rfl, by omega⟩⟩
    · have hjn : j = n := by omega
      subst hjn
      rw [rowT_full]
      have htl : (timesR j B r).length = j := by simp [timesR]
      have hq : (PV.lst j ((timesR j B r).map pn)) = pIs (timesR j B r) := by unfold pIs; rw [htl]
      refine ⟨by omega, part1 (fz_own push_cont (by rw [List.length_map, htl]; omega) (Nat.le_refl _) (by rw [Nat.mul_one, List.take_of_length_le (by rw [List.length_map, htl]; exact Nat.le_refl _)])) ⟨[PV.lst j ((timesR j B r).map pn)], rfl, ?_⟩⟩
      rw [hq, push_set]
      have hlA : (A.take i).length = i := by rw [List.length_take]; omega
      have hgp := (hg.h.push (b := .frz 3 ((timesR j B r).map pn))).push (b := .live 22 [pIs (timesR j B r)])
      refine appG (f := pIs) (e := 22) (y := timesR j B r) hgp push_cont rfl rfl rfl rfl (by kernel_rfl) rfl rfl (by rw [List.length_map]; omega) (by omega) fun v' σ' hv' _ _ => ?_
      refine ⟨⟨by omega, by omega⟩, ?_⟩
      refine ⟨_, by omega, ci ⟨i + 1, _, v', σ', _, rfl, ⟨rfl, rfl, rfl, rfl, rfl, trivial⟩, rfl, by omega, by omega, ⟨?_⟩⟩⟩
      rw [List.take_add_one, hr]
      simpa using hv'
  · have hil : i = A.length := by omega
    subst hil
    have := hg.h
    rw [List.take_length] at this
    obtain ⟨σ', hf⟩ := this.fz
    rw [List.length_map] at hf
    exact endf hf (by unfold pM; rw [List.length_map])
end Go.PI
/- A STEP: the reference's, with its matrix. -/
open Go.Proofs
namespace Go.PI
open IM
set_option maxRecDepth 10000
set_option maxHeartbeats 4000000
theorem frz_rows {j n : Nat} : ∀ {M : List (List Int)} {q : Nat} {σ : List StB} {K : List PV → List StB → Prop}, (∀ (i : Nat) (r : List Int), M[i]? = some r → r.length = n ∧ contOf σ (j + 1 + (q + i)) = some (3, r.map pn)) →
    (∀ σ', (∀ i, contOf σ' i = contOf σ i) → σ'.length = σ.length → K (M.map pIs) σ') → frzsK σ ((List.range' q M.length).map (rwOf j n)) K
  | [], _, σ, K, _, hK => hK σ (fun _ => rfl) rfl
  | r :: M, q, σ, K, h, hK => by
    have h1 := (h 0 r rfl).1
    have h2 : contOf σ (j + 1 + q) = some (3, r.map pn) := (h 0 r rfl).2
    refine ⟨3, r.map pn, r.map pn, h2, ⟨by rw [List.length_map]; omega, Nat.le_refl _⟩, by rw [List.drop_zero, List.take_of_length_le (by rw [List.length_map]; omega)], ?_⟩
    refine frz_rows (M := M) (q := q + 1) (fun i r' hr => ?_) fun σ' k1 k2 => ?_
    · have := h (i + 1) r' hr
      refine ⟨this.1, ?_⟩
      rw [contOf_set h2, show j + 1 + (q + 1 + i) = j + 1 + (q + (i + 1)) by omega]
      exact this.2
    · have he : PV.lst n (r.map pn) = pIs r := by unfold pIs; rw [h1]
      rw [he]
      exact hK σ' (fun i => (k1 i).trans (contOf_set h2 i)) (k2.trans (by simp))
theorem seal_mx {σ : List StB} {j n : Nat} {M : List (List Int)} (hM : Mx σ j n M) {K : List StB → Prop} (hK : ∀ σ', contOf σ' j = some (22, M.map pIs) → (∀ i, i ≠ j → contOf σ' i = contOf σ i) → K σ') : sealsK σ [j] K := by
  refine ⟨22, _, hM.top, ?_⟩
  rw [List.range_eq_range']
  refine frz_rows (fun i r hr => ?_) fun σ' k1 k2 => ⟨_, rfl, hK _ ?_ fun i hi => ?_⟩
  · have := hM.row i r hr
    rw [Nat.zero_add]
    exact ⟨this.1, contOf_live this.2⟩
  · have := (List.getElem?_eq_some_iff.1 hM.top).1
    exact contOf_live (List.getElem?_set_self (by omega))
  · have h1 := k1 i
    unfold contOf at h1 ⊢
    rw [List.getElem?_set_ne (Ne.symm hi)]
    exact h1
theorem end_mx {σ : List StB} {j n : Nat} {M : List (List Int)} {t b : List Int} {Q : PV → Prop} (hM : Mx σ j n M) (hMl : M.length = n) (hQ : Q (.tup [pRo t b, pM M])) : EndsK σ [pRo t b, .own j 0 n n 1] Q := by
  refine ⟨[j], seal_mx hM fun σ' h1 _ => ?_⟩
  refine ⟨22, _, M.map pIs, h1, ⟨by rw [List.length_map]; omega, Nat.le_refl _⟩, by rw [List.drop_zero, List.take_of_length_le (by rw [List.length_map]; omega)], ?_⟩
  show Q (.tup [pRo t b, .lst n (M.map pIs)])
  rw [← hMl]
  exact hQ
theorem Mx.put {σ : List StB} {j n q : Nat} {M : List (List Int)} {r r' : List Int} (h : Mx σ j n M) (hr : M[q]? = some r) (hl : r'.length = n) : Mx (σ.set (j + 1 + q) (.live 3 (r'.map pn))) j n (M.set q r') := by
  have hq := (List.getElem?_eq_some_iff.1 (h.row q r hr).2).1
  refine ⟨by rw [List.getElem?_set_ne (by omega), List.length_set]; exact h.top, fun p s hs => ?_⟩
  by_cases hpq : q = p
  · subst hpq
    rw [List.getElem?_set_self (List.getElem?_eq_some_iff.1 hr).1] at hs
    cases hs
    exact ⟨hl, List.getElem?_set_self hq⟩
  · rw [List.getElem?_set_ne hpq] at hs
    rw [List.getElem?_set_ne (by omega)]
    exact h.row p s hs
theorem Mx.keep {σ σ' : List StB} {j n : Nat} {M : List (List Int)} (h : Mx σ j n M) (k : ∀ (i : Nat) (b : StB), j ≤ i → σ[i]? = some b → σ'[i]? = some b) : Mx σ' j n M :=
  ⟨k j _ (Nat.le_refl _) h.top, fun q r hr => ⟨(h.row q r hr).1, k _ _ (by omega) (h.row q r hr).2⟩⟩
theorem pspl_all {cs new : List PV} (h : cs.length = new.length) : pspl cs 0 new = new := by
  unfold pspl
  rw [List.take_zero, List.nil_append, Nat.zero_add, List.drop_eq_nil_of_le (by omega), List.append_nil]
def stepM (n w l : Nat) : List (List Int) := (unitM n).set w ((unitR n w).set l 1)
variable (S : FuncId → Option (List AV → Heap → Option (AV × Heap)))
theorem load_ro {σ : List StB} {j : Nat} {t : TypeId} {p q : PV} (h : contOf σ j = some (t, [p, q])) : ploadE (ctx.plus S) σ 24 (.optr j 0) = some (.agg [p, q]) := by
  show (match contOf σ j with | some (_, cs) => partP t24 cs 0 | none => match livOf σ j with | some (_, cs) => partP t24 cs 0 | none => none) = _
  rw [h]
  rfl
theorem unitM_at {n q : Nat} (h : q < n) : (unitM n)[q]? = some (unitR n q) := by
  unfold unitM
  rw [List.getElem?_map, List.getElem?_range h]
  rfl
theorem fn13 : ctx.fn 13 = some c13 := by kernel_rfl
theorem rmove_ct (hS : OldX S) {t b : List Int} {x y n : Nat} {κ : Int} (lt : t.length = n) (lb : b.length = n) (hn : 2 ≤ n ∧ n ≤ 12) (hx : t[n - 1]? = some (x : Int)) (hy : b[n - 1]? = some (y : Int)) (hxn : x < n) (hyn : y < n) :
    Ct (ctx.plus S) 13 [pRo t b, pn κ] 100 fun r => r = if κ = 0 then .tup [pRo t (mvR b y x), pM (stepM n x y)] else .tup [pRo (mvR t x y) b, pM (stepM n y x)] := by
  subst lt
  refine ctO_of Omx (hS 13 (by decide)) fn13 ?_
  refine ⟨by omega, by omega, ?_⟩
  refine ⟨_, rfl, ?_⟩
  refine ⟨by kernel_rfl, ?_⟩
  refine ⟨_, rfl, rfl, ?_⟩
  refine ⟨⟨by omega, by omega⟩, ?_⟩
  refine ⟨⟨⟨by omega, by omega⟩, len_map_le (by omega)⟩, ?_⟩
  refine ⟨_, ld (at_map hx) (by show _ * 1 = t.length - 1; omega), rfl, ?_⟩
  refine ⟨_, rfl, rfl, ?_⟩
  refine ⟨⟨by omega, by omega⟩, ?_⟩
  refine ⟨⟨⟨by omega, by omega⟩, len_map_le (by omega)⟩, ?_⟩
  refine ⟨_, ld (at_map hy) (by show _ * 1 = t.length - 1; omega), rfl, ?_⟩
  refine callm (runit_cm S hS hn.2) (by omega) ?_
  rintro _ σ ⟨rfl, hM, hlen, hold⟩
  have hM : Mx σ 2 t.length (unitM t.length) := hM
  have h0 : σ[0]? = some (.live 24 [pIs t, pIs b]) := hold 0 _ rfl
  have h1 : ∃ cs, σ[1]? = some (.live 24 cs) ∧ cs.length = 2 := ⟨_, hold 1 _ rfl, rfl⟩
  clear hold
  obtain ⟨zs, h1, hzs⟩ := h1
  have hMl : (unitM t.length).length = t.length := by simp [unitM]
  refine ⟨fun hk => ?_, fun hk => ?_⟩
  · have hrow := hM.row x _ (unitM_at hxn)
    refine ⟨⟨by omega, by omega⟩, ?_⟩
    refine ⟨_, load_liv hM.top rfl (show ((List.range (unitM t.length).length).map (rwOf 2 t.length))[0 + x * 1]? = some (rwOf 2 t.length x) from by
      rw [Nat.zero_add, Nat.mul_one, List.getElem?_map, List.getElem?_range (by omega)]; rfl), ?_⟩
    refine ⟨⟨by omega, by omega⟩, ?_⟩
    have hput : ∀ o, o = y → pspl ((unitR t.length x).map pn) o [pn 1] = ((unitR t.length x).set y 1).map pn := fun o ho => by
      rw [ho, spl_one (by rw [List.length_map, hrow.1]; omega), List.map_set]
    have hM2 := hM.put (unitM_at hxn) (r' := (unitR t.length x).set y 1) (by rw [List.length_set]; exact hrow.1)
    obtain ⟨τ, hτ⟩ : ∃ τ, σ.set (2 + 1 + x) (.live 3 (((unitR t.length x).set y 1).map pn)) = τ := ⟨_, rfl⟩
    refine ⟨_, _, hrow.2, ⟨rfl, by rw [List.length_map, hrow.1]; show 0 + y * 1 + 1 ≤ t.length; omega, rfl⟩, _, hput (0 + y * 1) (by omega), τ, hτ, ?_⟩
    rw [hτ] at hM2
    have g0 : τ[0]? = some (.live 24 [pIs t, pIs b]) := by rw [← hτ, List.getElem?_set_ne (by omega)]; exact h0
    have g1 : τ[1]? = some (.live 24 zs) := by rw [← hτ, List.getElem?_set_ne (by omega)]; exact h1
    refine ⟨by kernel_rfl, ?_⟩
    refine ⟨_, load_k (q := 0) rfl rfl (contOf_live g0) rfl rfl, rfl, ?_⟩
    refine callq rfl (copy_ct S hS (by omega)) (by omega) ?_
    rintro _ rfl
    refine ⟨_, load_k (q := 1) rfl rfl (contOf_live g0) rfl rfl, rfl, ?_⟩
    refine callq rfl (rmoved_ct S hS (by omega)) (by omega) ?_
    rintro _ rfl
    refine part2 fzL fzL ⟨[pIs t, pIs (mvR b y x)], rfl, ?_⟩
    refine ⟨_, _, g1, ⟨rfl, by rw [hzs]; exact Nat.le_refl 2, rfl⟩, _, pspl_all hzs, _, rfl, ?_⟩
    refine ⟨_, load_ro S (contOf_live (List.getElem?_set_self (List.getElem?_eq_some_iff.1 g1).1)), ?_⟩
    refine end_mx (hM2.keep fun i b hi hb => (List.getElem?_set_ne (show (1 : Nat) ≠ i by omega)).trans hb) (by rw [List.length_set]; exact hMl) ?_
    rw [if_pos hk]
    rfl
  · have hrow := hM.row y _ (unitM_at hyn)
    refine ⟨⟨by omega, by omega⟩, ?_⟩
    refine ⟨_, load_liv hM.top rfl (show ((List.range (unitM t.length).length).map (rwOf 2 t.length))[0 + y * 1]? = some (rwOf 2 t.length y) from by
      rw [Nat.zero_add, Nat.mul_one, List.getElem?_map, List.getElem?_range (by omega)]; rfl), ?_⟩
    refine ⟨⟨by omega, by omega⟩, ?_⟩
    have hput : ∀ o, o = x → pspl ((unitR t.length y).map pn) o [pn 1] = ((unitR t.length y).set x 1).map pn := fun o ho => by
      rw [ho, spl_one (by rw [List.length_map, hrow.1]; omega), List.map_set]
    have hM2 := hM.put (unitM_at hyn) (r' := (unitR t.length y).set x 1) (by rw [List.length_set]; exact hrow.1)
    obtain ⟨τ, hτ⟩ : ∃ τ, σ.set (2 + 1 + y) (.live 3 (((unitR t.length y).set x 1).map pn)) = τ := ⟨_, rfl⟩
    refine ⟨_, _, hrow.2, ⟨rfl, by rw [List.length_map, hrow.1]; show 0 + x * 1 + 1 ≤ t.length; omega, rfl⟩, _, hput (0 + x * 1) (by omega), τ, hτ, ?_⟩
    rw [hτ] at hM2
    have g0 : τ[0]? = some (.live 24 [pIs t, pIs b]) := by rw [← hτ, List.getElem?_set_ne (by omega)]; exact h0
    have g1 : τ[1]? = some (.live 24 zs) := by rw [← hτ, List.getElem?_set_ne (by omega)]; exact h1
    refine ⟨by kernel_rfl, ?_⟩
    refine ⟨_, load_k (q := 0) rfl rfl (contOf_live g0) rfl rfl, rfl, ?_⟩
    refine callq rfl (rmoved_ct S hS (by omega)) (by omega) ?_
    rintro _ rfl
    refine ⟨_, load_k (q := 1) rfl rfl (contOf_live g0) rfl rfl, rfl, ?_⟩
    refine callq rfl (copy_ct S hS (by omega)) (by omega) ?_
    rintro _ rfl
    refine part2 fzL fzL ⟨[pIs (mvR t x y), pIs b], rfl, ?_⟩
    refine ⟨_, _, g1, ⟨rfl, by rw [hzs]; exact Nat.le_refl 2, rfl⟩, _, pspl_all hzs, _, rfl, ?_⟩
    refine ⟨_, load_ro S (contOf_live (List.getElem?_set_self (List.getElem?_eq_some_iff.1 g1).1)), ?_⟩
    refine end_mx (hM2.keep fun i b hi hb => (List.getElem?_set_ne (show (1 : Nat) ≠ i by omega)).trans hb) (by rw [List.length_set]; exact hMl) ?_
    rw [if_neg hk]
    rfl
end Go.PI
/- PURE: both words for a step say the same. -/
open Go.Proofs
namespace Go.PI
open IM
theorem unitR_get {n q c : Nat} (hc : c < n) : (unitR n q).getD c 0 = if c = q then 1 else 0 := by
  unfold unitR
  rw [List.getD_eq_getElem?_getD]
  by_cases h : q = c
  · subst h
    rw [List.getElem?_set_self (by simp; exact hc), if_pos rfl]; rfl
  · rw [List.getElem?_set_ne h, if_neg (Ne.symm h)]
    simp [hc]
theorem stepM_get {n w l q c : Nat} (hw : w < n) (hq : q < n) (hc : c < n) (hwl : w ≠ l) : ((stepM n w l).getD q []).getD c 0 = (if c = q then 1 else 0) + (if q = w ∧ c = l then 1 else 0) := by
  have hql : q < (unitM n).length := by simp [unitM]; exact hq
  unfold stepM
  rw [List.getD_eq_getElem?_getD (l := List.set _ _ _)]
  by_cases h : w = q
  · subst h
    rw [List.getElem?_set_self hql]
    show ((unitR n w).set l 1).getD c 0 = _
    by_cases h2 : l = c
    · subst h2
      rw [List.getD_eq_getElem?_getD, List.getElem?_set_self (by simp [unitR]; exact hc), if_neg (Ne.symm hwl), if_pos ⟨rfl, rfl⟩]
      rfl
    · rw [List.getD_eq_getElem?_getD, List.getElem?_set_ne h2, ← List.getD_eq_getElem?_getD, unitR_get hc, if_neg (c := w = w ∧ c = l) (fun h => h2 h.2.symm)]
      omega
  · rw [List.getElem?_set_ne h, unitM_at hq]
    show (unitR n q).getD c 0 = _
    rw [unitR_get hc, if_neg (c := q = w ∧ c = l) (fun h2 => h h2.1.symm)]
    omega
theorem dot_step {n w l c : Nat} {r : List Int} (hw : w < n) (hc : c < n) (hwl : w ≠ l) : ∀ k, k ≤ n → dotT r (stepM n w l) c k = (if c < k then r.getD c 0 else 0) + (if c = l ∧ w < k then r.getD w 0 else 0)
  | 0, _ => by simp [dotT]
  | k + 1, hk => by
    have ih := dot_step (r := r) hw hc hwl k (by omega)
    show dotT r (stepM n w l) c k + r.getD k 0 * ((stepM n w l).getD k []).getD c 0 = _
    rw [ih, stepM_get hw (by omega) hc hwl, Int.mul_add]
    have e1 : r.getD k 0 * (if c = k then 1 else 0) + (if c < k then r.getD c 0 else 0) = if c < k + 1 then r.getD c 0 else 0 := by
      by_cases h : c = k
      · subst h; rw [if_pos rfl, if_neg (by omega), if_pos (by omega)]; omega
      · rw [if_neg h]
        by_cases h2 : c < k
        · rw [if_pos h2, if_pos (by omega)]; omega
        · rw [if_neg h2, if_neg (by omega)]; omega
    have e2 : r.getD k 0 * (if k = w ∧ c = l then 1 else 0) + (if c = l ∧ w < k then r.getD w 0 else 0) = if c = l ∧ w < k + 1 then r.getD w 0 else 0 := by
      by_cases h : c = l
      · by_cases h2 : k = w
        · subst h2; rw [if_pos ⟨rfl, h⟩, if_neg (by omega), if_pos ⟨h, by omega⟩]; omega
        · rw [if_neg (fun h3 => h2 h3.1)]
          by_cases h4 : w < k
          · rw [if_pos ⟨h, h4⟩, if_pos ⟨h, by omega⟩]; omega
          · rw [if_neg (by omega), if_neg (by omega)]; omega
      · rw [if_neg (fun h3 => h h3.2), if_neg (fun h3 => h h3.1), if_neg (fun h3 => h h3.1)]; omega
    omega
theorem times_ext {n w l : Nat} {r : List Int} (hw : w < n) (hl : l < n) (hwl : w ≠ l) (hr : r.length = n) : timesR n (stepM n w l) r = extR w l r := by
  refine List.ext_getElem? fun c => ?_
  by_cases hc : c < n
  · unfold timesR extR
    rw [List.getElem?_map, List.getElem?_range hc]
    show some (dotT r (stepM n w l) c n) = _
    rw [dot_step hw hc hwl n (Nat.le_refl _), if_pos hc]
    by_cases h : l = c
    · subst h
      rw [List.getElem?_set_self (by omega), if_pos ⟨rfl, hw⟩]
    · rw [List.getElem?_set_ne h, if_neg (fun h2 => h h2.1.symm), get_at (by omega), Int.add_zero]
  · rw [List.getElem?_eq_none (by simp [timesR]; omega), List.getElem?_eq_none (by simp [extR]; omega)]
theorem times_exts {n w l : Nat} {M : List (List Int)} (hw : w < n) (hl : l < n) (hwl : w ≠ l) (hM : ∀ r ∈ M, r.length = n) : M.map (timesR n (stepM n w l)) = M.map (extR w l) :=
  List.map_congr_left fun r hr => times_ext hw hl hwl (hM r hr)
/-- what is not y and not x is left as it is -/
theorem mv_keep {x y : Int} : ∀ {l : List Int}, y ∉ l → x ∉ l → mvR l y x = l
  | [], _, _ => rfl
  | e :: l, hy, hx => by
    have h1 : e ≠ y := fun h => hy (by rw [h]; simp)
    have h2 : e ≠ x := fun h => hx (by rw [h]; simp)
    have ih := mv_keep (l := l) (fun h => hy (List.mem_cons_of_mem _ h)) (fun h => hx (List.mem_cons_of_mem _ h))
    unfold mvR at ih ⊢
    rw [List.map_cons, List.flatten_cons, ih]
    unfold mv1
    rw [if_neg h1, if_neg h2]
    rfl
theorem mv_app {x y : Int} {a b : List Int} : mvR (a ++ b) y x = mvR a y x ++ mvR b y x := by
  unfold mvR
  simp
/-- y is the last one, and x another: both words -/
theorem mv_pbh {l : List Int} {x y : Int} (hn : l.Nodup) (hl : l[l.length - 1]? = some y) (hx : x ∈ l) (hxy : x ≠ y) : mvR l y x = pbh l x := by
  obtain ⟨i, h1, h2, h3⟩ := idx_is hx
  have hi := (List.getElem?_eq_some_iff.1 h2).1
  have hil : i ≠ l.length - 1 := fun h => by rw [h, hl] at h2; cases h2; exact hxy rfl
  have e0 : l = l.take i ++ (x :: ((l.take (l.length - 1)).drop (i + 1)) ++ [y]) := by
    have a1 : l = l.take (l.length - 1) ++ [y] := by
      have := take_snoc hl
      rw [show l.length - 1 + 1 = l.length by omega, List.take_length] at this
      exact this
    have a2 : (l.take (l.length - 1))[i]? = some x := by rw [List.getElem?_take, if_pos (by omega)]; exact h2
    have a3 : l.take (l.length - 1) = (l.take (l.length - 1)).take i ++ x :: (l.take (l.length - 1)).drop (i + 1) := by
      have := List.take_append_drop i (l.take (l.length - 1))
      rw [drop_of_get a2] at this
      exact this.symm
    rw [List.take_take, Nat.min_eq_left (by omega)] at a3
    have := a1
    rw [a3] at this
    simpa using this
  obtain ⟨p, hp⟩ : ∃ p, l.take i = p := ⟨_, rfl⟩
  obtain ⟨s, hs⟩ : ∃ s, (l.take (l.length - 1)).drop (i + 1) = s := ⟨_, rfl⟩
  have hlast : l.drop (l.length - 1) = [y] := by
    rw [drop_of_get hl, List.drop_eq_nil_of_le (by omega)]
  have htk : l.take (i + 1) = p ++ [x] := by rw [take_snoc h2, hp]
  have hpb : pbh l x = p ++ [x] ++ [y] ++ s := by
    unfold pbh
    rw [h1, show ((i : Int)).toNat = i by omega, htk, hlast, hs]
  rw [hp, hs] at e0
  rw [hpb]
  have hn2 := hn
  rw [e0] at hn2
  obtain ⟨n1, n2, n3⟩ := List.nodup_append.1 hn2
  obtain ⟨n4, n5⟩ := List.nodup_cons.1 (show (x :: (s ++ [y])).Nodup from n2)
  obtain ⟨-, -, n6⟩ := List.nodup_append.1 n5
  conv => lhs; rw [e0]
  rw [mv_app, List.cons_append, ← List.singleton_append, mv_app, mv_app]
  rw [mv_keep (l := p) (fun h => n3 _ h y (by simp) rfl) (fun h => n3 _ h x (by simp) rfl)]
  have q1 : mvR s y x = s := by
    refine mv_keep (fun h => ?_) (fun h => ?_)
    · exact n6 _ h y (by simp) rfl
    · exact n4 (List.mem_append_left _ h)
  rw [q1]
  have q2 : mvR [x] y x = [x, y] := by unfold mvR mv1; simp [hxy]
  have q3 : mvR [y] y x = [] := by unfold mvR mv1; simp [Ne.symm hxy]
  rw [q2, q3]
  simp
end Go.PI
/- PURE: a step keeps rows irreducible. -/
open Go.Proofs
namespace Go.PI
open IM
/-- irreducible rows of n letters -/
structure Rws (n : Nat) (t b : List Int) : Prop where
  hn : 2 ≤ n ∧ n ≤ 8
  lt : t.length = n
  lb : b.length = n
  ot : Ord t n
  ob : Ord b n
  ir : ∀ k : Nat, 1 ≤ k → k < n → ¬ AllB t b k k
theorem rws_of {t b : List Int} (h : chkI t b = 0) : Rws t.length t b := by
  rcases chkI_cases t b with h' | ⟨-, hL, hO, hI⟩
  · exact absurd h h'
  exact ⟨⟨hL.2.1, hL.2.2⟩, rfl, hL.1, hO.1, hO.2, (irr_iff hL hO).1 hI⟩
theorem Rws.chk {n : Nat} {t b : List Int} (h : Rws n t b) : chkI t b = 0 := by
  have hL : LenOK t b := ⟨by rw [h.lt, h.lb], by rw [h.lt]; exact h.hn.1, by rw [h.lt]; exact h.hn.2⟩
  have hO : OrdOK t b := ⟨by rw [h.lt]; exact h.ot, by rw [h.lt]; exact h.ob⟩
  exact chkI_0 (chk0 hL hO) ((irr_iff hL hO).2 fun k h1 h2 => h.ir k h1 (by rw [← h.lt]; exact h2))
theorem nodup_ix {l : List Int} (hn : l.Nodup) {i j : Nat} {a : Int} (hi : l[i]? = some a) (hj : l[j]? = some a) : i = j := by
  obtain ⟨h1, e1⟩ := List.getElem?_eq_some_iff.1 hi
  obtain ⟨h2, e2⟩ := List.getElem?_eq_some_iff.1 hj
  have hp := List.pairwise_iff_getElem.1 (List.nodup_iff_pairwise_ne.1 hn)
  rcases Nat.lt_trichotomy i j with h | h | h
  · exact absurd (e1.trans e2.symm) (hp i j h1 h2 h)
  · exact h
  · exact absurd (e2.trans e1.symm) (hp j i h2 h1 h)
section
variable {n : Nat} {t b : List Int}
theorem Rws.tn (h : Rws n t b) : t.Nodup := ord_nodup (h.lt.symm ▸ h.ot)
theorem Rws.bn (h : Rws n t b) : b.Nodup := ord_nodup (h.lb.symm ▸ h.ob)
theorem Rws.tm (h : Rws n t b) {x : Int} (hx : x ∈ t) : ∃ c : Nat, c < n ∧ x = c := by
  obtain ⟨c, h1, h2⟩ := ord_mem (h.lt.symm ▸ h.ot) hx
  exact ⟨c, by rw [← h.lt]; exact h1, h2⟩
theorem Rws.bm (h : Rws n t b) {x : Int} (hx : x ∈ b) : ∃ c : Nat, c < n ∧ x = c := by
  obtain ⟨c, h1, h2⟩ := ord_mem (h.lb.symm ▸ h.ob) hx
  exact ⟨c, by rw [← h.lb]; exact h1, h2⟩
theorem Rws.tb (h : Rws n t b) {x : Int} (hx : x ∈ t) : x ∈ b := by
  obtain ⟨c, h1, rfl⟩ := h.tm hx
  exact h.ob c h1
theorem Rws.bt (h : Rws n t b) {x : Int} (hx : x ∈ b) : x ∈ t := by
  obtain ⟨c, h1, rfl⟩ := h.bm hx
  exact h.ot c h1
theorem Rws.ne (h : Rws n t b) {x y : Int} (hx : t[n - 1]? = some x) (hy : b[n - 1]? = some y) : x ≠ y := fun e => by
  subst e
  have hn := h.hn
  have hlb := h.lb
  refine h.ir (n - 1) (by omega) (by omega) ((allB_sub (by omega)).2 fun z hz => ?_)
  obtain ⟨i, hi, hzi⟩ := mem_take.1 hz
  obtain ⟨m, hm⟩ := List.getElem?_of_mem (h.bt (List.mem_of_getElem? hzi))
  have hml := (List.getElem?_eq_some_iff.1 hm).1
  have hlt := h.lt
  refine mem_take.2 ⟨m, ?_, hm⟩
  by_cases hmn : m = n - 1
  · rw [hmn, hx] at hm
    cases hm
    have := nodup_ix h.bn hzi hy
    omega
  · omega
end
theorem idx_in {l : List Int} {n : Nat} {x y : Int} (hl : l.length = n) (hx : x ∈ l) (hy : l[n - 1]? = some y) (hxy : x ≠ y) : 0 ≤ idx l x ∧ idx l x + 1 ≤ ((n - 1 : Nat) : Int) := by
  obtain ⟨j, h1, h2, -⟩ := idx_is hx
  have hj := (List.getElem?_eq_some_iff.1 h2).1
  have : j ≠ n - 1 := fun e => by rw [e, hy] at h2; cases h2; exact hxy rfl
  rw [h1]
  omega
theorem pbh_take {l : List Int} {x : Int} {k : Nat} (hk : k ≤ (idx l x).toNat + 1) (hl : (idx l x).toNat + 1 ≤ l.length) : (pbh l x).take k = l.take k := by
  unfold pbh
  rw [List.append_assoc, List.take_append_of_le_length (by rw [List.length_take]; omega), List.take_take, Nat.min_eq_left hk]
theorem pbh_at {l : List Int} {x : Int} (hx : x ∈ l) {k : Nat} (hk : (idx l x).toNat + 1 ≤ k) : x ∈ (pbh l x).take k := by
  obtain ⟨j, h1, h2, -⟩ := idx_is hx
  have hj := (List.getElem?_eq_some_iff.1 h2).1
  have e : (idx l x).toNat = j := by rw [h1]; rfl
  refine mem_take.2 ⟨j, by omega, ?_⟩
  have h3 := pbh_take (l := l) (x := x) (k := j + 1) (by omega) (by omega)
  have h4 : ((pbh l x).take (j + 1))[j]? = (l.take (j + 1))[j]? := by rw [h3]
  rw [List.getElem?_take, List.getElem?_take, if_pos (by omega), if_pos (by omega)] at h4
  rw [h4, h2]
theorem pbh_len {l : List Int} {x : Int} {n : Nat} (hl : l.length = n) (h0 : 0 ≤ idx l x) (hi : idx l x + 1 ≤ ((n - 1 : Nat) : Int)) : (pbh l x).length = n := by
  unfold pbh
  simp only [List.length_append, List.length_take, List.length_drop]
  omega
theorem mv_mem {l : List Int} {x y e : Int} (he : e ∈ l) (hx : x ∈ l) : e ∈ mvR l y x := by
  unfold mvR
  by_cases h : e = y
  · exact List.mem_flatten.2 ⟨mv1 y x x, List.mem_map.2 ⟨x, hx, rfl⟩, by unfold mv1; rw [if_pos rfl]; simp [h]⟩
  · exact List.mem_flatten.2 ⟨mv1 y x e, List.mem_map.2 ⟨e, he, rfl⟩, by unfold mv1; rw [if_neg h]; simp⟩
section
variable {n : Nat} {t b : List Int} {x y : Int}
theorem Rws.top (h : Rws n t b) (hx : t[n - 1]? = some x) (hy : b[n - 1]? = some y) : Rws n t (pbh b x) ∧ mvR b y x = pbh b x ∧ (0 ≤ idx b x ∧ idx b x + 1 ≤ ((n - 1 : Nat) : Int)) := by
  have hxy := h.ne hx hy
  have hxb := h.tb (List.mem_of_getElem? hx)
  have hi := idx_in h.lb hxb hy hxy
  have hlb := h.lb
  have e : mvR b y x = pbh b x := mv_pbh h.bn (by rw [h.lb]; exact hy) hxb hxy
  refine ⟨⟨h.hn, h.lt, pbh_len h.lb hi.1 hi.2, h.ot, fun c hc => by rw [← e]; exact mv_mem (h.ob c hc) hxb, fun k h1 h2 ha => ?_⟩, e, hi⟩
  have hpl := pbh_len h.lb hi.1 hi.2
  have hs := (allB_sub (by omega)).1 ha
  have hxt : x ∉ t.take k := fun hm => by
    obtain ⟨m, hm1, hm2⟩ := mem_take.1 hm
    have := nodup_ix h.tn hm2 hx
    omega
  have hk : k ≤ (idx b x).toNat := Nat.le_of_not_lt fun hlt => hxt (hs (pbh_at hxb (by omega)))
  refine h.ir k h1 h2 ((allB_sub (by omega)).2 ?_)
  rw [pbh_take (by omega) (by omega)] at hs
  exact hs
theorem Rws.bot (h : Rws n t b) (hx : t[n - 1]? = some x) (hy : b[n - 1]? = some y) : Rws n (pbh t y) b ∧ mvR t x y = pbh t y ∧ (0 ≤ idx t y ∧ idx t y + 1 ≤ ((n - 1 : Nat) : Int)) := by
  have hxy := h.ne hx hy
  have hyt := h.bt (List.mem_of_getElem? hy)
  have hi := idx_in h.lt hyt hx (Ne.symm hxy)
  have hlt := h.lt
  have hlb := h.lb
  have e : mvR t x y = pbh t y := mv_pbh h.tn (by rw [h.lt]; exact hx) hyt (Ne.symm hxy)
  have hpl := pbh_len h.lt hi.1 hi.2
  refine ⟨⟨h.hn, hpl, h.lb, fun c hc => by rw [← e]; exact mv_mem (h.ot c hc) hyt, h.ob, fun k h1 h2 ha => ?_⟩, e, hi⟩
  have hs := (allB_sub (by omega)).1 ha
  have hbk : (b.take k).Nodup := h.bn.sublist (List.take_sublist _ _)
  have hs2 := sub_back hbk hs (by rw [List.length_take, List.length_take]; omega)
  have hyb : y ∉ b.take k := fun hm => by
    obtain ⟨m, hm1, hm2⟩ := mem_take.1 hm
    have := nodup_ix h.bn hm2 hy
    omega
  have hk : k ≤ (idx t y).toNat := Nat.le_of_not_lt fun hlt => hyb (hs2 (pbh_at hyt (by omega)))
  refine h.ir k h1 h2 ((allB_sub (by omega)).2 ?_)
  rw [pbh_take (by omega) (by omega)] at hs
  exact hs
end
end Go.PI
/- STEPS, one after the other. -/
open Go.Proofs
namespace Go.PI
open IM
set_option maxRecDepth 10000
set_option maxHeartbeats 4000000
def lastL (l : List Int) : Int := l.getD (l.length - 1) 0
def stT (κ : Int) (t b : List Int) : List Int := if κ = 0 then t else pbh t (lastL b)
def stB (κ : Int) (t b : List Int) : List Int := if κ = 0 then pbh b (lastL t) else b
def stW (κ : Int) (t b : List Int) : Int := if κ = 0 then lastL t else lastL b
def stL (κ : Int) (t b : List Int) : Int := if κ = 0 then lastL b else lastL t
section
variable {n : Nat} {t b : List Int} {κ : Int}
theorem Rws.lastT (h : Rws n t b) : t[n - 1]? = some (lastL t) := by
  have := h.hn; have := h.lt
  unfold lastL
  rw [h.lt]
  exact get_at (by omega)
theorem Rws.lastB (h : Rws n t b) : b[n - 1]? = some (lastL b) := by
  have := h.hn; have := h.lb
  unfold lastL
  rw [h.lb]
  exact get_at (by omega)
theorem Rws.step (h : Rws n t b) : Rws n (stT κ t b) (stB κ t b) := by
  unfold stT stB
  by_cases hk : κ = 0
  · rw [if_pos hk, if_pos hk]; exact (h.top h.lastT h.lastB).1
  · rw [if_neg hk, if_neg hk]; exact (h.bot h.lastT h.lastB).1
theorem Rws.wl (h : Rws n t b) : ∃ w l : Nat, stW κ t b = w ∧ stL κ t b = l ∧ w < n ∧ l < n ∧ w ≠ l := by
  obtain ⟨x, hx, ex⟩ := h.tm (List.mem_of_getElem? h.lastT)
  obtain ⟨y, hy, ey⟩ := h.bm (List.mem_of_getElem? h.lastB)
  have hne := h.ne h.lastT h.lastB
  unfold stW stL
  by_cases hk : κ = 0
  · rw [if_pos hk, if_pos hk]; exact ⟨x, y, ex, ey, hx, hy, fun e => hne (by rw [ex, ey, e])⟩
  · rw [if_neg hk, if_neg hk]; exact ⟨y, x, ey, ex, hy, hx, fun e => hne (by rw [ex, ey, e])⟩
end
variable (S : FuncId → Option (List AV → Heap → Option (AV × Heap)))
theorem step_ct (hS : OldX S) {n w l : Nat} {t b : List Int} {κ : Int} (h : Rws n t b) (hw : stW κ t b = w) (hl : stL κ t b = l) :
    Ct (ctx.plus S) 57 [pRo t b, pn κ] 100 fun r => r = .tup [pRo (stT κ t b) (stB κ t b), pn w, pn l] := by
  have hn := h.hn
  have hi := (h.top h.lastT h.lastB).2.2
  have hj := (h.bot h.lastT h.lastB).2.2
  have := moved_ct S hS (κ := κ) h.lt h.lb ⟨hn.1, by omega⟩ h.lastT h.lastB (by omega) (by omega)
  rw [← hw, ← hl]
  unfold stT stB stW stL
  by_cases hk : κ = 0
  · simpa only [if_pos hk] using this
  · simpa only [if_neg hk] using this
theorem rstep_ct (hS : OldX S) {n w l : Nat} {t b : List Int} {κ : Int} (h : Rws n t b) (hw : stW κ t b = w) (hl : stL κ t b = l) :
    Ct (ctx.plus S) 13 [pRo t b, pn κ] 100 fun r => r = .tup [pRo (stT κ t b) (stB κ t b), pM (stepM n w l)] := by
  have hn := h.hn
  obtain ⟨x, hx, ex⟩ := h.tm (List.mem_of_getElem? h.lastT)
  obtain ⟨y, hy, ey⟩ := h.bm (List.mem_of_getElem? h.lastB)
  have h1 := h.lastT
  have h2 := h.lastB
  have e1 := (h.top h.lastT h.lastB).2.1
  have e2 := (h.bot h.lastT h.lastB).2.1
  rw [ex] at h1
  rw [ey] at h2
  have := rmove_ct S hS (κ := κ) h.lt h.lb ⟨hn.1, by omega⟩ h1 h2 hx hy
  unfold stW at hw
  unfold stL at hl
  unfold stT stB
  rw [ex, ey] at e1 e2
  by_cases hk : κ = 0
  · simp only [if_pos hk] at this hw hl ⊢
    have e3 : x = w := by omega
    have e4 : y = l := by omega
    rw [e1, e3, e4] at this
    rw [ex, e3]
    exact this
  · simp only [if_neg hk] at this hw hl ⊢
    have e3 : y = w := by omega
    have e4 : x = l := by omega
    rw [e2, e3, e4] at this
    rw [ey, e3]
    exact this
/-- rows and the matrix so far -/
abbrev PS := List Int × List Int × List (List Int)
def st1 (s : PS) (κ : Int) : PS := (stT κ s.1 s.2.1, stB κ s.1 s.2.1, s.2.2.map (extR (stW κ s.1 s.2.1).toNat (stL κ s.1 s.2.1).toNat))
def runS (s : PS) (ks : List Int) : PS := ks.foldl st1 s
theorem run_next {s : PS} {ks : List Int} {i : Nat} {κ : Int} (h : ks[i]? = some κ) : runS s (ks.take (i + 1)) = st1 (runS s (ks.take i)) κ := by
  unfold runS
  rw [take_snoc h, List.foldl_append]
  rfl
structure PInv (n i : Nat) (s : PS) : Prop where
  rws : Rws n s.1 s.2.1
  len : s.2.2.length = n
  bd : ∀ r ∈ s.2.2, r.length = n ∧ ∀ a ∈ r, 0 ≤ a ∧ a ≤ 2 ^ i
theorem PInv.next {n i : Nat} {s : PS} (h : PInv n i s) (κ : Int) : PInv n (i + 1) (st1 s κ) := by
  refine ⟨h.rws.step, by show (List.map _ _).length = n; rw [List.length_map]; exact h.len, fun r hr => ?_⟩
  obtain ⟨r', hr', rfl⟩ := List.mem_map.1 hr
  obtain ⟨h1, h2⟩ := h.bd r' hr'
  have hp : (2 : Int) ^ (i + 1) = 2 ^ i + 2 ^ i := by rw [Int.pow_succ]; omega
  have hg : ∀ q : Nat, 0 ≤ r'.getD q 0 ∧ r'.getD q 0 ≤ 2 ^ i := fun q => by
    rw [List.getD_eq_getElem?_getD]
    cases hq : r'[q]? with
    | none =>
      have : (0 : Int) ≤ 2 ^ i := Int.pow_nonneg (by decide)
      exact ⟨Int.le_refl 0, this⟩
    | some a => exact h2 a (List.mem_of_getElem? hq)
  unfold extR
  refine ⟨by rw [List.length_set]; exact h1, fun a ha => ?_⟩
  rcases List.mem_or_eq_of_mem_set ha with ha | rfl
  · have := h2 a ha
    omega
  · have a1 := hg (stL κ s.1 s.2.1).toNat
    have a2 := hg (stW κ s.1 s.2.1).toNat
    omega
theorem PInv.zero {n : Nat} {t b : List Int} (h : Rws n t b) : PInv n 0 (t, b, unitM n) := by
  refine ⟨h, by simp [unitM], fun r hr => ?_⟩
  obtain ⟨q, hq⟩ := List.getElem?_of_mem hr
  obtain ⟨-, rfl⟩ := unitM_get hq
  refine ⟨by simp [unitR], fun a ha => ?_⟩
  unfold unitR at ha
  rcases List.mem_or_eq_of_mem_set ha with ha | rfl
  · rw [(List.mem_replicate.1 ha).2]; decide
  · decide
theorem PInv.run {n : Nat} {s : PS} {ks : List Int} (h : PInv n 0 s) : ∀ i, i ≤ ks.length → PInv n i (runS s (ks.take i))
  | 0, _ => h
  | i + 1, hi => by
    obtain ⟨κ, hκ⟩ := xs_get (xs := ks) (i := i) (by omega)
    rw [run_next hκ]
    exact (PInv.run h i (by omega)).next κ
theorem pow_lt : ∀ {i : Nat}, i ≤ 20 → (2 : Int) ^ i ≤ 2000000
  | 0, _ => by decide
  | i + 1, h => by
    have key : ∀ j : Nat, j ≤ 20 → (2 : Int) ^ j ≤ 2 ^ 20 := fun j hj => by
      obtain ⟨d, hd⟩ : ∃ d, j + d = 20 := ⟨20 - j, by omega⟩
      have h1 : (1 : Int) ≤ 2 ^ d := by
        have : (0 : Int) < 2 ^ d := Int.pow_pos (by decide)
        omega
      have h0 : (0 : Int) ≤ 2 ^ j := Int.pow_nonneg (by decide)
      have := Int.mul_le_mul_of_nonneg_left h1 h0
      rw [← Int.pow_add, hd] at this
      omega
    have := key (i + 1) h
    have e : (2 : Int) ^ 20 = 1048576 := by decide
    omega
end Go.PI
/- STEPS, one after the other: the program's. -/
open Go.Proofs
namespace Go.PI
open IM
set_option maxRecDepth 10000
set_option maxHeartbeats 4000000
variable (S : FuncId → Option (List AV → Heap → Option (AV × Heap)))
def pPS (s : PS) : PV := .tup [pRo s.1 s.2.1, pM s.2.2]
theorem fn30 : ctx.fn 30 = some c30 := by kernel_rfl
theorem follow_ct (hS : OldX S) {n : Nat} {t b ks : List Int} (h : Rws n t b) (hk : ks.length ≤ 20) : Ct (ctx.plus S) 30 [pRo t b, pIs ks] 5000 fun r => r = pPS (runS (t, b, unitM n) ks) := by
  have hn := h.hn
  have hlt := h.lt
  have hlb := h.lb
  have ht : t ≠ [] := fun e => by rw [e] at hlt; simp at hlt; omega
  have hb : b ≠ [] := fun e => by rw [e] at hlb; simp at hlb; omega
  have hI := PInv.run (ks := ks) (PInv.zero h)
  subst hlt
  refine ctO_of Omx (hS 30 (by decide)) fn30 ?_
  refine ⟨by omega, by omega, ?_⟩
  refine ⟨_, rfl, ?_⟩
  refine callq rfl (cloned_ct S hS (by omega) (by omega) ht hb) (by omega) ?_
  rintro _ rfl
  refine ⟨_, _, rfl, ⟨rfl, Nat.le_refl 2, rfl⟩, _, rfl, _, rfl, ?_⟩
  refine ⟨_, rfl, ?_⟩
  refine callm (unit_cm S hS (n := t.length) (by omega)) (by omega) ?_
  rintro _ σ ⟨rfl, hM, hlen, hold⟩
  have hM : Mx σ 2 t.length (unitM t.length) := hM
  have h0 : σ[0]? = some (.live 24 [pIs t, pIs b]) := hold 0 _ rfl
  have h1 : ∃ cs, σ[1]? = some (.live 24 cs) ∧ cs.length = 2 := ⟨_, hold 1 _ rfl, rfl⟩
  have hlen : 3 + t.length ≤ σ.length := by rw [hlen]; exact Nat.le_refl _
  clear hold
  refine ⟨fun m s => ∃ (i k : Nat) (σ : List StB) (T : List PV), s = ⟨T, σ, k⟩ ∧ Gt T 39 [(2, .optr 0 0), (4, .optr 1 0), (6, .own 2 0 t.length t.length 1), (18, pIs ks), (19, pn ks.length), (20, pn i)] ∧ m = ks.length - i ∧ i ≤ ks.length ∧ k ≤ 200 + 200 * i ∧ σ[0]? = some (.live 24 [pIs (runS (t, b, unitM t.length) (ks.take i)).1, pIs (runS (t, b, unitM t.length) (ks.take i)).2.1]) ∧ (∃ cs, σ[1]? = some (.live 24 cs) ∧ cs.length = 2) ∧ Mx σ 2 t.length (runS (t, b, unitM t.length) (ks.take i)).2.2 ∧ 3 + t.length ≤ σ.length, ⟨_, ci ⟨0, _, σ, _, rfl, ⟨rfl, rfl, rfl, rfl, rfl, rfl, rfl, trivial⟩, rfl, Nat.zero_le _, (by show _ ≤ 200 + 0; omega), h0, h1, hM, hlen⟩⟩, ?_⟩
  clear h0 h1 hM hlen
  rintro _ s ⟨i, k, σ, T, rfl, hT, rfl, hi, hk2, h0, ⟨zs, h1, hzs⟩, hM, hlen⟩
  obtain ⟨J, rfl⟩ := gt_open hT
  clear hT
  have hIi := hI i hi
  refine ⟨fun hlt => ?_, fun hge => ?_⟩
  · obtain ⟨κ, hκ⟩ := xs_get (xs := ks) (i := i) (by omega)
    have hnx := run_next (s := (t, b, unitM t.length)) hκ
    obtain ⟨s, hs⟩ : ∃ s, runS (t, b, unitM t.length) (ks.take i) = s := ⟨_, rfl⟩
    rw [hs] at h0 hM hIi hnx
    obtain ⟨w, l, hw, hl, hwn, hln, hwl⟩ := hIi.rws.wl (κ := κ)
    have hp := pow_lt (i := i) (by omega)
    refine ⟨⟨⟨by omega, by omega⟩, len_map_le (by omega)⟩, ?_⟩
    refine ⟨_, ld (at_map hκ) (by show _ * 1 = i; omega), ?_⟩
    refine ⟨_, load_ro S (contOf_live h0), ?_⟩
    refine callq rfl (step_ct S hS hIi.rws hw hl) (by omega) ?_
    rintro _ rfl
    refine ⟨by omega, ?_⟩
    refine ⟨_, _, push_get, ⟨rfl, Nat.le_refl 2, rfl⟩, [pIs (stT κ s.1 s.2.1), pIs (stB κ s.1 s.2.1)], pspl_all rfl, _, push_set, ?_⟩
    refine callm (ext_cm S hS (M := s.2.2) (hM.keep fun i b _ hb => push_old hb) hIi.len (by omega) hwn hln (fun r hr => ?_)) (by omega) ?_
    · have hr2 := hIi.bd r hr
      have g1 := hr2.2 _ (List.mem_of_getElem? (get_at (p := r) (i := l) (by omega)))
      have g2 := hr2.2 _ (List.mem_of_getElem? (get_at (p := r) (i := w) (by omega)))
      unfold In64
      omega
    rintro _ σ3 ⟨hM3, hl3, hold3⟩
    have hl3 : σ3.length = σ.length + 1 := by rw [hl3, List.length_append]; rfl
    have q0 := hold3 0 _ (.inl (by omega)) (push_old h0)
    have q1 := hold3 1 _ (.inl (by omega)) (push_old h1)
    have q2 := hold3 σ.length _ (.inr (by omega)) push_get
    refine ⟨_, load_ro S (contOf_live q2), ?_⟩
    refine ⟨_, _, q0, ⟨rfl, Nat.le_refl 2, rfl⟩, [pIs (stT κ s.1 s.2.1), pIs (stB κ s.1 s.2.1)], pspl_all rfl, _, rfl, ?_⟩
    refine ⟨⟨by omega, by omega⟩, ?_⟩
    have e1 : (runS (t, b, unitM t.length) (ks.take (i + 1))) = (stT κ s.1 s.2.1, stB κ s.1 s.2.1, s.2.2.map (extR w l)) := by
      rw [hnx]; unfold st1; rw [hw, hl]; rfl
    refine ⟨_, by omega, ci ⟨i + 1, _, _, _, rfl, ⟨rfl, rfl, rfl, rfl, rfl, rfl, rfl, trivial⟩, rfl, by omega, ?_, ?_, ⟨zs, ?_, hzs⟩, ?_, ?_⟩⟩
    · omega
    · rw [e1, List.getElem?_set_self (List.getElem?_eq_some_iff.1 q0).1]
    · exact (List.getElem?_set_ne (show (0 : Nat) ≠ 1 by decide)).trans q1
    · rw [e1]
      exact hM3.keep fun i b hi hb => (List.getElem?_set_ne (show (0 : Nat) ≠ i by omega)).trans hb
    · rw [List.length_set]; omega
  · have hin : i = ks.length := by omega
    subst hin
    rw [List.take_length] at h0 hM hIi
    obtain ⟨s, hs⟩ : ∃ s, runS (t, b, unitM t.length) ks = s := ⟨_, rfl⟩
    rw [hs] at h0 hM hIi ⊢
    refine ⟨_, load_ro S (contOf_live h0), ?_⟩
    refine ⟨_, _, h1, ⟨rfl, by rw [hzs]; exact Nat.le_refl 2, rfl⟩, _, pspl_all hzs, _, rfl, ?_⟩
    refine ⟨_, load_ro S (contOf_live (List.getElem?_set_self (List.getElem?_eq_some_iff.1 h1).1)), ?_⟩
    exact end_mx (hM.keep fun i b hi hb => (List.getElem?_set_ne (show (1 : Nat) ≠ i by omega)).trans hb) hIi.len rfl
end Go.PI
