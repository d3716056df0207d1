/- Own work of the verifier: CoV CoW CoX CoT. -/
import Derived.Test.YtdflpkkgjppmgaaGreatCsAZ
import Derived.Test.YtdflpkkgjppmgaaGreatCsAX
set_option linter.all false
set_option exponentiation.threshold 3000
set_option linter.deprecated false
/- PARTITIONS, of the reference; orders and genus of both. -/
open Go.Proofs
namespace Go.PI
open IM
set_option maxRecDepth 20000
set_option maxHeartbeats 4000000
variable (S : FuncId → Option (List AV → Heap → Option (AV × Heap)))
theorem rck_ct (hS : OldO S) {xs : List Int} (hl : xs.length ≤ 1000000) : Ct (ctx.plus S) 16 [pIs xs] 0 fun r => r = pn (ckV xs) := by
  refine ct_of (hS 16 (by decide)) fn16 ?_
  refine ⟨fun hgt => ?_, fun hle => ?_⟩
  · exact endq rfl (by unfold ckV; rw [if_pos (by omega)])
  have hl2 : xs.length ≤ 20 := by omega
  refine ⟨fun m s => ∃ (i : Nat) (T : List PV), s = ⟨T, [], 0⟩ ∧ Gt T 36 [(0, pIs xs), (3, pn i)] ∧ m = xs.length - i ∧ i ≤ xs.length ∧ Hid (ckL 1000 xs = ckL (prv xs i) (xs.drop i)) ∧ Hid (∀ x ∈ xs.take i, 1 ≤ x ∧ x ≤ 20), ⟨_, ci ⟨0, _, rfl, ⟨rfl, rfl, rfl, trivial⟩, rfl, Nat.zero_le _, ⟨rfl⟩, ⟨fun x hx => by simp at hx⟩⟩⟩, ?_⟩
  rintro m s ⟨i, T, rfl, hT, hm, hi, hI, hV⟩
  obtain ⟨J, rfl⟩ := gt_open hT
  clear hT
  refine ⟨fun hlt => ?_, fun hge => ?_⟩
  · obtain ⟨x, hx⟩ := xs_get (xs := xs) (i := i) (by omega)
    have hat := ckL_at hx
    refine ⟨⟨⟨by omega, by omega⟩, len_map_le (by omega)⟩, ?_⟩
    refine ⟨_, ld (at_map hx) (by show _ * 1 = i; omega), ?_⟩
    refine callq rfl (rwithin_ct S hS) (by omega) ?_
    rintro _ rfl
    by_cases hw : 1 ≤ x ∧ x ≤ 20
    · rw [decide_eq_true hw]
      rw [if_pos hw] at hat
      refine ⟨by kernel_rfl, ?_⟩
      refine ⟨fun h0 => ?_, fun h0 => ?_⟩
      · have hi0 : 0 < i := by omega
        obtain ⟨y, hy⟩ := xs_get (xs := xs) (i := i - 1) (by omega)
        have hp : prv xs i = y := by
          unfold prv
          rw [if_neg (by omega), List.getD_eq_getElem?_getD, hy]
          rfl
        rw [hp] at hat
        refine ⟨⟨⟨by omega, by omega⟩, len_map_le (by omega)⟩, ?_⟩
        refine ⟨_, ld (at_map hx) (by show _ * 1 = i; omega), rfl, ?_⟩
        refine ⟨⟨by omega, by omega⟩, ?_⟩
        refine ⟨⟨⟨by omega, by omega⟩, len_map_le (by omega)⟩, ?_⟩
        refine ⟨_, ld (at_map hy) (by show _ * 1 = i - 1; omega), rfl, ?_⟩
        refine ⟨fun hgt => ?_, fun hle2 => ?_⟩
        · refine endq rfl ?_
          have : ckL 1000 xs = 9 := by rw [hI.h, hp, hat, if_pos (by omega)]
          unfold ckV
          rw [if_neg (by omega), this, if_neg (by decide)]
        · refine ⟨⟨by omega, by omega⟩, ?_⟩
          exact ⟨_, by omega, ci ⟨i + 1, _, rfl, ⟨rfl, rfl, by show pn _ = pn _; norm_cast, trivial⟩, rfl, by omega, ⟨by rw [hI.h, hp, hat, if_neg (by omega)]⟩, ⟨fun z hz => by
            rw [List.take_add_one, hx] at hz
            rcases List.mem_append.1 hz with hz | hz
            · exact hV.h z hz
            · simp at hz; subst hz; exact hw⟩⟩⟩
      · have hi0 : i = 0 := by omega
        subst hi0
        refine ⟨⟨by omega, by omega⟩, ?_⟩
        have hp : ¬ x > prv xs 0 := by unfold prv; rw [if_pos rfl]; omega
        rw [if_neg hp] at hat
        exact ⟨_, by omega, ci ⟨0 + 1, _, rfl, ⟨rfl, rfl, by show pn _ = pn _; norm_cast, trivial⟩, rfl, by omega, ⟨by rw [hI.h, hat]⟩, ⟨fun z hz => by
            rw [List.take_add_one, hx] at hz
            rcases List.mem_append.1 hz with hz | hz
            · exact hV.h z hz
            · simp at hz; subst hz; exact hw⟩⟩⟩
    · rw [decide_eq_false hw]
      rw [if_neg hw] at hat
      refine endq rfl ?_
      have : ckL 1000 xs = 2 := by rw [hI.h, hat]
      unfold ckV
      rw [if_neg (by omega), this, if_neg (by decide)]
  · have hii : i = xs.length := by omega
    subst hii
    have hv0 : ckL 1000 xs = 0 := by rw [hI.h, List.drop_of_length_le (Nat.le_refl _)]; rfl
    have hb : Few xs := ⟨by omega, fun x hx => by have := hV.h x (by rw [List.take_of_length_le (Nat.le_refl _)]; exact hx); omega⟩
    refine callq rfl (rsize'_ct S hS hb) (by omega) ?_
    rintro _ rfl
    refine ⟨fun hgt => ?_, fun hle2 => ?_⟩
    · exact endq rfl (by unfold ckV; rw [if_neg (by omega), if_pos hv0, if_pos (by omega)])
    · exact endq rfl (by unfold ckV; rw [if_neg (by omega), if_pos hv0, if_neg (by omega)])
def dec1 (xs : List Int) : List Int := xs.map fun x => x - 1
theorem dec1_next {xs : List Int} {i : Nat} {x : Int} (h : xs[i]? = some x) : dec1 (xs.take (i + 1)) = dec1 (xs.take i) ++ [x - 1] := by
  unfold dec1
  rw [List.take_add_one, h, List.map_append]
  rfl
theorem fn95 : ctx.fn 95 = some c95 := by kernel_rfl
theorem fn46 : ctx.fn 46 = some c46 := by kernel_rfl
theorem ordersOf_ct (hS : OldO S) {xs : List Int} (h : Few xs) : Ct (ctx.plus S) 95 [pIs xs] 3000 fun r => r = pIs (dec1 xs) := by
  have hl := h.1
  refine ct_of (hS 95 (by decide)) fn95 ?_
  refine ⟨fun m s => ∃ (i : Nat) (v : PV) (σ : List StB) (T : List PV), s = ⟨T, σ, 2 * i⟩ ∧ Gt T 19 [(3, v), (6, pIs xs), (7, pn xs.length), (8, pn i)] ∧ m = xs.length - i ∧ i ≤ xs.length ∧ Hid (Gr pn 3 v σ (dec1 (xs.take i))), ⟨_, ci ⟨0, .nils, [], _, rfl, ⟨rfl, rfl, rfl, rfl, rfl, trivial⟩, rfl, Nat.zero_le _, ⟨.nil⟩⟩⟩, ?_⟩
  rintro m s ⟨i, v, σ, T, rfl, hT, hm, hi, hg⟩
  obtain ⟨J, rfl⟩ := gt_open hT
  clear hT
  refine ⟨fun hlt => ?_, fun hge => ?_⟩
  · obtain ⟨x, hx⟩ := xs_get (xs := xs) (i := i) (by omega)
    have hxb := h.2 x (List.mem_of_getElem? hx)
    have hdl : (dec1 (xs.take i)).length ≤ 1000 := by unfold dec1; simp; omega
    refine ⟨⟨⟨by omega, by omega⟩, len_map_le (by omega)⟩, ?_⟩
    refine ⟨_, ld (at_map hx) (by show _ * 1 = i; omega), ?_⟩
    refine ⟨⟨by omega, by omega⟩, ?_⟩
    refine ⟨by omega, part1 fzI ⟨[pn (x - 1)], rfl, ?_⟩⟩
    refine appG (f := pn) (e := 3) (y := x - 1) hg.h.push push_cont rfl rfl rfl rfl (by kernel_rfl) rfl rfl (by omega) (by omega) fun v' σ' hv' _ _ => ?_
    refine ⟨⟨by omega, by omega⟩, ?_⟩
    exact ⟨_, by omega, ci ⟨i + 1, v', σ', _, rfl, ⟨rfl, rfl, rfl, rfl, by show pn _ = pn _; norm_cast, trivial⟩, rfl, by omega, ⟨by rw [dec1_next hx]; exact hv'⟩⟩⟩
  · have hin : i = xs.length := by omega
    subst hin
    obtain ⟨σ', hf⟩ := hg.h.fz
    refine endf hf ?_
    rw [List.take_of_length_le (Nat.le_refl _)]
    rfl
theorem rorders_ct (hS : OldO S) {xs : List Int} (h : Few xs) : Ct (ctx.plus S) 46 [pIs xs] 3000 fun r => r = pIs (dec1 xs) := by
  have hl := h.1
  refine ct_of (hS 46 (by decide)) fn46 ?_
  refine ⟨fun m s => ∃ (i : Nat) (v : PV) (σ : List StB) (T : List PV), s = ⟨T, σ, 2 * i⟩ ∧ Gt T 20 [(0, pIs xs), (3, v), (4, pn i)] ∧ m = xs.length - i ∧ i ≤ xs.length ∧ Hid (Gr pn 3 v σ (dec1 (xs.take i))), ⟨_, ci ⟨0, .nils, [], _, rfl, ⟨rfl, rfl, rfl, rfl, trivial⟩, rfl, Nat.zero_le _, ⟨.nil⟩⟩⟩, ?_⟩
  rintro m s ⟨i, v, σ, T, rfl, hT, hm, hi, hg⟩
  obtain ⟨J, rfl⟩ := gt_open hT
  clear hT
  refine ⟨fun hlt => ?_, fun hge => ?_⟩
  · obtain ⟨x, hx⟩ := xs_get (xs := xs) (i := i) (by omega)
    have hxb := h.2 x (List.mem_of_getElem? hx)
    have hdl : (dec1 (xs.take i)).length ≤ 1000 := by unfold dec1; simp; omega
    refine ⟨⟨⟨by omega, by omega⟩, len_map_le (by omega)⟩, ?_⟩
    refine ⟨_, ld (at_map hx) (by show _ * 1 = i; omega), ?_⟩
    refine ⟨⟨by omega, by omega⟩, ?_⟩
    refine ⟨by omega, part1 fzI ⟨[pn (x - 1)], rfl, ?_⟩⟩
    refine appG (f := pn) (e := 3) (y := x - 1) hg.h.push push_cont rfl rfl rfl rfl (by kernel_rfl) rfl rfl (by omega) (by omega) fun v' σ' hv' _ _ => ?_
    refine ⟨⟨by omega, by omega⟩, ?_⟩
    exact ⟨_, by omega, ci ⟨i + 1, v', σ', _, rfl, ⟨rfl, rfl, rfl, by show pn _ = pn _; norm_cast, trivial⟩, rfl, by omega, ⟨by rw [dec1_next hx]; exact hv'⟩⟩⟩
  · have hin : i = xs.length := by omega
    subst hin
    obtain ⟨σ', hf⟩ := hg.h.fz
    refine endf hf ?_
    rw [List.take_of_length_le (Nat.le_refl _)]
    rfl
theorem fn72 : ctx.fn 72 = some c72 := by kernel_rfl
theorem fn96 : ctx.fn 96 = some c96 := by kernel_rfl
theorem answerI_bad (hS : OldO S) {xs : List Int} {g : Nat} (hl : xs.length ≤ 1000000) (hb : ckV xs ≠ 0) : Ct (ctx.plus S) 72 [pIs xs, pn 20, .fn g] 0 fun r => r = .tup [.lst 0 [], pn (ckV xs)] := by
  refine ct_of (hS 72 (by decide)) fn72 ?_
  refine callq rfl (ck_ct S hS hl) (by omega) ?_
  rintro _ rfl
  refine ⟨fun h => absurd h hb, fun _ => ?_⟩
  refine ⟨fun _ => ?_, fun h => absurd h hb⟩
  exact ⟨⟨[], rfl⟩⟩
theorem answerI_ct (hS : OldO S) {xs : List Int} {g d : Nat} {v : PV} (hl : xs.length ≤ 1000000) (hb : ckV xs = 0) (hv : cloA v = true) (hg : Ct (ctx.plus S) g [pIs xs] d fun r => r = v) : Ct (ctx.plus S) 72 [pIs xs, pn 20, .fn g] d fun r => r = .tup [v, pn 0] := by
  refine ct_of (hS 72 (by decide)) fn72 ?_
  refine callq rfl (ck_ct S hS hl) (by omega) ?_
  rintro _ rfl
  rw [hb]
  refine ⟨fun _ => ?_, fun h => absurd rfl h⟩
  refine callq rfl (size'_ct S hS (ckV_bd hb)) (by omega) ?_
  rintro _ rfl
  have := (ckV_ok hb).2.2.1
  refine ⟨fun h => by omega, fun _ => ?_⟩
  refine ⟨fun h => absurd rfl h, fun _ => ?_⟩
  refine callq rfl hg (by omega) ?_
  rintro _ rfl
  exact endsq (by simp only [cloAs, hv, Bool.true_and]; rfl) rfl
end Go.PI
/- LISTS IN DESCENDING ORDER: how the reference makes them. -/
open Go.Proofs
namespace Go.PI
open IM
set_option maxRecDepth 20000
set_option maxHeartbeats 4000000
variable (S : FuncId → Option (List AV → Heap → Option (AV × Heap)))
def Gl (v : PV) (σ : List StB) (ys : List Int) : Prop :=
  (v = .nils ∧ ys = []) ∨ (∃ j, v = .own j 0 ys.length ys.length 1 ∧ σ[j]? = some (.live 3 (ys.map pn))) ∨ (∃ j, v = .ownu j ys.length 1 ∧ σ[j]? = some (.live 3 (ys.map pn)))
theorem Gl.fz {v : PV} {σ : List StB} {ys : List Int} (h : Gl v σ ys) : ∃ σ', Fz v σ (pIs ys) σ' := by
  rcases h with ⟨rfl, rfl⟩ | ⟨j, rfl, h⟩ | ⟨j, rfl, h⟩
  · exact ⟨σ, fzN⟩
  · exact ⟨_, fun K hK => ⟨3, _, _, contOf_live h, ⟨by simp, Nat.le_refl _⟩, by rw [List.drop_zero, List.take_of_length_le (by simp)], hK⟩⟩
  · exact ⟨_, fun K hK => ⟨3, _, _, contOf_live h, ⟨by simp, fun _ => rfl⟩, by rw [List.take_of_length_le (by simp)], hK⟩⟩
theorem Gl.push {v : PV} {σ : List StB} {ys : List Int} {b : StB} (h : Gl v σ ys) : Gl v (σ ++ [b]) ys := by
  rcases h with ⟨rfl, rfl⟩ | ⟨j, rfl, h⟩ | ⟨j, rfl, h⟩
  · exact .inl ⟨rfl, rfl⟩
  · exact .inr (.inl ⟨j, rfl, by rw [List.getElem?_append_left (List.getElem?_eq_some_iff.1 h).1]; exact h⟩)
  · exact .inr (.inr ⟨j, rfl, by rw [List.getElem?_append_left (List.getElem?_eq_some_iff.1 h).1]; exact h⟩)
theorem Gl.apW {v : PV} {σ : List StB} {ys : List Int} {T : List PV} {qs : List Tmp} (h : Gl v σ ys) (k : ∀ j, apC T j qs) : PI.apW T qs v := by
  rcases h with ⟨rfl, rfl⟩ | ⟨j, rfl, h⟩ | ⟨j, rfl, h⟩
  · trivial
  · exact k j
  · exact k j
theorem appL {σ : List StB} {v : PV} {ys xs : List Int} { c k : Nat} {K : PV → List StB → Nat → Prop} (hg : Gl v σ ys) (hx : xs.length ≤ 1000000) (hy : ys.length ≤ 1000000) (hk : k < c)
    (hK : ∀ v' σ' k', k ≤ k' → k' ≤ k + 1 → Gl v' σ' (ys ++ xs) → K v' σ' k') : AppK (ctx.plus S) c k σ [22, 22] v (pIs xs) K := by
  rcases hg with ⟨rfl, rfl⟩ | ⟨j, rfl, h⟩ | ⟨j, rfl, h⟩
  · refine ⟨⟨by rw [List.length_map]; show xs.length = xs.length * 1; omega, ⟨⟨by show xs.length ≤ 2 ^ 30; omega, pones_pn xs⟩, fun h => ?_, fun h => ⟨hk, ?_⟩⟩⟩⟩
    · have h0 : xs = [] := List.eq_nil_of_length_eq_zero (by have : (xs).length = 0 := h; exact this)
      have hz := hK .nils σ k (Nat.le_refl _) (by omega) (.inl ⟨rfl, by rw [h0]; rfl⟩)
      exact hz
    · exact hK _ _ _ (by omega) (Nat.le_refl _) (.inr (.inr ⟨σ.length, by simp; rfl, by simp⟩))
  · have hjl := (List.getElem?_eq_some_iff.1 h).1
    refine ⟨⟨by rw [List.length_map]; show xs.length = xs.length * 1; omega, ⟨⟨by show xs.length ≤ 2 ^ 30; omega, pones_pn xs⟩, by show ys.length ≤ 2 ^ 30; omega, fun hc => ?_, fun hc => ⟨hk, 3, _, (ys ++ xs).map pn, contOf_live h, by rw [List.length_map]; show 0 + ys.length * 1 ≤ ys.length; omega, ?_, ?_⟩⟩⟩⟩
    · have h0 : xs = [] := List.eq_nil_of_length_eq_zero (by have : ys.length + xs.length ≤ ys.length := hc; omega)
      refine ⟨3, _, ys.map pn, h, ?_, ?_, ?_⟩
      · show 0 + ys.length * 1 + ((xs).map pn).length ≤ (ys.map pn).length
        rw [h0]
        simp
      · show pspl (ys.map pn) (0 + ys.length * 1) ((xs).map pn) = _
        rw [h0]
        unfold pspl
        simp
      · have hz := hK (.own j 0 (ys.length + xs.length) ys.length 1) (σ.set j (.live 3 (ys.map pn))) k (Nat.le_refl _) (by omega) (.inr (.inl ⟨j, by rw [h0]; simp, ?_⟩))
        · exact hz
        rw [List.getElem?_set_self hjl, h0]
        simp
    · show ((ys.map pn).drop 0).take (ys.length * 1) ++ (xs).map pn = _
      rw [List.drop_zero, List.take_of_length_le (by simp), List.map_append]
    · exact hK _ _ _ (by omega) (Nat.le_refl _) (.inr (.inr ⟨σ.length, by rw [List.length_append]; rfl, by simp⟩))
  · refine ⟨⟨by rw [List.length_map]; show xs.length = xs.length * 1; omega, ⟨⟨by show xs.length ≤ 2 ^ 30; omega, pones_pn xs⟩, ⟨by show ys.length ≤ 2 ^ 30; omega, rfl, hk⟩, _, (ys ++ xs).map pn, h, by rw [List.length_map]; show ys.length * 1 ≤ ys.length; omega, ?_, ?_⟩⟩⟩
    · show (ys.map pn).take (ys.length * 1) ++ (xs).map pn = _
      rw [List.take_of_length_le (by simp), List.map_append]
    · exact hK _ _ _ (by omega) (Nat.le_refl _) (.inr (.inr ⟨(σ.set j .dead).length, by rw [List.length_append, List.length_set], by simp⟩))
theorem app1 {σ : List StB} {v : PV} {ys : List Int} {x : Int} {ty : TypeId} {i m c k : Nat} {K : PV → List StB → Nat → Prop} (hg : Gl v σ ys) (hi : contOf σ i = some (ty, [pn x])) (hy : ys.length ≤ 1000000) (hk : k < c)
    (hK : ∀ v' σ' k', k ≤ k' → k' ≤ k + 1 → Gl v' σ' (ys ++ [x]) → K v' σ' k') : AppK (ctx.plus S) c k σ [22, 22] v (.own i 0 1 1 m) K := by
  rcases hg with ⟨rfl, rfl⟩ | ⟨j, rfl, h⟩ | ⟨j, rfl, h⟩
  · refine ⟨⟨ty, [pn x], [pn x], hi, by show 0 + 1 * 1 ≤ 1; omega, rfl, ⟨⟨by show 1 ≤ 2 ^ 30; decide, pones_pn [x]⟩, fun h => ?_, fun h => ⟨hk, ?_⟩⟩⟩⟩
    · have h0 : [x] = [] := List.eq_nil_of_length_eq_zero (by have : ([x]).length = 0 := h; exact this)
      have hz := hK .nils σ k (Nat.le_refl _) (by omega) (.inl ⟨rfl, by rw [h0]; rfl⟩)
      exact hz
    · exact hK _ _ _ (by omega) (Nat.le_refl _) (.inr (.inr ⟨σ.length, by simp; rfl, by simp⟩))
  · have hjl := (List.getElem?_eq_some_iff.1 h).1
    refine ⟨⟨ty, [pn x], [pn x], hi, by show 0 + 1 * 1 ≤ 1; omega, rfl, ⟨⟨by show 1 ≤ 2 ^ 30; decide, pones_pn [x]⟩, by show ys.length ≤ 2 ^ 30; omega, fun hc => ?_, fun hc => ⟨hk, 3, _, (ys ++ [x]).map pn, contOf_live h, by rw [List.length_map]; show 0 + ys.length * 1 ≤ ys.length; omega, ?_, ?_⟩⟩⟩⟩
    · have h0 : [x] = [] := List.eq_nil_of_length_eq_zero (by have : ys.length + [x].length ≤ ys.length := hc; omega)
      refine ⟨3, _, ys.map pn, h, ?_, ?_, ?_⟩
      · show 0 + ys.length * 1 + (([x]).map pn).length ≤ (ys.map pn).length
        rw [h0]
        simp
      · show pspl (ys.map pn) (0 + ys.length * 1) (([x]).map pn) = _
        rw [h0]
        unfold pspl
        simp
      · have hz := hK (.own j 0 (ys.length + [x].length) ys.length 1) (σ.set j (.live 3 (ys.map pn))) k (Nat.le_refl _) (by omega) (.inr (.inl ⟨j, by rw [h0]; simp, ?_⟩))
        · exact hz
        rw [List.getElem?_set_self hjl, h0]
        simp
    · show ((ys.map pn).drop 0).take (ys.length * 1) ++ ([x]).map pn = _
      rw [List.drop_zero, List.take_of_length_le (by simp), List.map_append]
    · exact hK _ _ _ (by omega) (Nat.le_refl _) (.inr (.inr ⟨σ.length, by rw [List.length_append]; rfl, by simp⟩))
  · refine ⟨⟨ty, [pn x], [pn x], hi, by show 0 + 1 * 1 ≤ 1; omega, rfl, ⟨⟨by show 1 ≤ 2 ^ 30; decide, pones_pn [x]⟩, ⟨by show ys.length ≤ 2 ^ 30; omega, rfl, hk⟩, _, (ys ++ [x]).map pn, h, by rw [List.length_map]; show ys.length * 1 ≤ ys.length; omega, ?_, ?_⟩⟩⟩
    · show (ys.map pn).take (ys.length * 1) ++ ([x]).map pn = _
      rw [List.take_of_length_le (by simp), List.map_append]
    · exact hK _ _ _ (by omega) (Nat.le_refl _) (.inr (.inr ⟨(σ.set j .dead).length, by rw [List.length_append, List.length_set]; rfl, by simp⟩))
theorem app2 {σ : List StB} {v : PV} {ys xs : List Int} {ty : TypeId} {i m c k : Nat} {K : PV → List StB → Nat → Prop} (hg : Gl v σ ys) (hi : contOf σ i = some (ty, xs.map pn)) (hm : xs.length = m) (hx : xs.length ≤ 1000000) (hy : ys.length ≤ 1000000) (hk : k < c)
    (hK : ∀ v' σ' k', k ≤ k' → k' ≤ k + 1 → Gl v' σ' (ys ++ xs) → K v' σ' k') : AppK (ctx.plus S) c k σ [22, 22] v (.own i 0 m m 1) K := by
  subst hm
  rcases hg with ⟨rfl, rfl⟩ | ⟨j, rfl, h⟩ | ⟨j, rfl, h⟩
  · refine ⟨⟨ty, xs.map pn, xs.map pn, hi, by rw [List.length_map]; show 0 + xs.length * 1 ≤ xs.length; omega, by rw [List.drop_zero, List.take_of_length_le (by rw [List.length_map]; show xs.length ≤ xs.length * 1; omega)], ⟨⟨by show xs.length ≤ 2 ^ 30; omega, pones_pn xs⟩, fun h => ?_, fun h => ⟨hk, ?_⟩⟩⟩⟩
    · have h0 : xs = [] := List.eq_nil_of_length_eq_zero (by have : xs.length = 0 := h; omega)
      have hz := hK .nils σ k (Nat.le_refl _) (by omega) (.inl ⟨rfl, by rw [h0]; rfl⟩)
      exact hz
    · exact hK _ _ _ (by omega) (Nat.le_refl _) (.inr (.inr ⟨σ.length, by simp; rfl, by simp⟩))
  · have hjl := (List.getElem?_eq_some_iff.1 h).1
    refine ⟨⟨ty, xs.map pn, xs.map pn, hi, by rw [List.length_map]; show 0 + xs.length * 1 ≤ xs.length; omega, by rw [List.drop_zero, List.take_of_length_le (by rw [List.length_map]; show xs.length ≤ xs.length * 1; omega)], ⟨⟨by show xs.length ≤ 2 ^ 30; omega, pones_pn xs⟩, by show ys.length ≤ 2 ^ 30; omega, fun hc => ?_, fun hc => ⟨hk, 3, _, (ys ++ xs).map pn, contOf_live h, by rw [List.length_map]; show 0 + ys.length * 1 ≤ ys.length; omega, ?_, ?_⟩⟩⟩⟩
    · have h0 : xs = [] := List.eq_nil_of_length_eq_zero (by have : ys.length + xs.length ≤ ys.length := hc; omega)
      refine ⟨3, _, ys.map pn, h, ?_, ?_, ?_⟩
      · show 0 + ys.length * 1 + ((xs).map pn).length ≤ (ys.map pn).length
        rw [h0]
        simp
      · show pspl (ys.map pn) (0 + ys.length * 1) ((xs).map pn) = _
        rw [h0]
        unfold pspl
        simp
      · have hz := hK (.own j 0 (ys.length + xs.length) ys.length 1) (σ.set j (.live 3 (ys.map pn))) k (Nat.le_refl _) (by omega) (.inr (.inl ⟨j, by rw [h0]; simp, ?_⟩))
        · exact hz
        rw [List.getElem?_set_self hjl, h0]
        simp
    · show ((ys.map pn).drop 0).take (ys.length * 1) ++ (xs).map pn = _
      rw [List.drop_zero, List.take_of_length_le (by simp), List.map_append]
    · exact hK _ _ _ (by omega) (Nat.le_refl _) (.inr (.inr ⟨σ.length, by rw [List.length_append]; rfl, by simp⟩))
  · refine ⟨⟨ty, xs.map pn, xs.map pn, hi, by rw [List.length_map]; show 0 + xs.length * 1 ≤ xs.length; omega, by rw [List.drop_zero, List.take_of_length_le (by rw [List.length_map]; show xs.length ≤ xs.length * 1; omega)], ⟨⟨by show xs.length ≤ 2 ^ 30; omega, pones_pn xs⟩, ⟨by show ys.length ≤ 2 ^ 30; omega, rfl, hk⟩, _, (ys ++ xs).map pn, h, by rw [List.length_map]; show ys.length * 1 ≤ ys.length; omega, ?_, ?_⟩⟩⟩
    · show (ys.map pn).take (ys.length * 1) ++ (xs).map pn = _
      rw [List.take_of_length_le (by simp), List.map_append]
    · exact hK _ _ _ (by omega) (Nat.le_refl _) (.inr (.inr ⟨(σ.set j .dead).length, by rw [List.length_append, List.length_set], by simp⟩))
def dsc (xs : List Int) : List Int := (srt xs).reverse
theorem dsc_perm (xs : List Int) : (dsc xs).Perm xs := (List.reverse_perm _).trans (List.mergeSort_perm _ _)
theorem srt_pw (xs : List Int) : (srt xs).Pairwise fun a b => a ≤ b := by
  have h := List.pairwise_mergeSort (le := fun x y : Int => decide (x ≤ y)) (fun a b c h1 h2 => by simp at *; omega) (fun a b => by simp; omega) xs
  exact h.imp fun h => by simpa using h
theorem dsc_pw (xs : List Int) : (dsc xs).Pairwise fun a b => b ≤ a := List.pairwise_reverse.2 (srt_pw xs)
theorem dsc_eq {L xs : List Int} (h : L.Perm xs) (hp : L.Pairwise fun a b => b ≤ a) : L = dsc xs :=
  List.Perm.eq_of_pairwise (le := fun a b : Int => b ≤ a) (fun a b _ _ h1 h2 => by omega) hp (dsc_pw xs) (h.trans (dsc_perm xs).symm)
theorem dsc_len (xs : List Int) : (dsc xs).length = xs.length := (dsc_perm xs).length_eq
theorem dsc_self {xs : List Int} (h : xs.Pairwise fun a b => b ≤ a) : dsc xs = xs := (dsc_eq (List.Perm.refl _) h).symm
theorem ins_ok {L ys : List Int} {x : Int} {a : Nat} (hp : L.Perm ys) (hd : L.Pairwise fun a b => b ≤ a) (ha : a ≤ L.length) (h1 : ∀ j y, j < a → L[j]? = some y → x ≤ y) (h2 : ∀ y, L[a]? = some y → y < x) :
    (L.take a ++ [x] ++ L.drop a).Perm (ys ++ [x]) ∧ (L.take a ++ [x] ++ L.drop a).Pairwise fun a b => b ≤ a := by
  refine ⟨?_, ?_⟩
  · have e1 : (L.take a ++ [x] ++ L.drop a).Perm (L.take a ++ L.drop a ++ [x]) := by
      rw [List.append_assoc, List.append_assoc]
      exact List.Perm.append_left _ List.perm_append_comm
    rw [List.take_append_drop] at e1
    exact e1.trans (List.Perm.append_right _ hp)
  · have hd2 := hd
    rw [← List.take_append_drop a L, List.pairwise_append] at hd2
    obtain ⟨p1, p2, p3⟩ := hd2
    have q1 : ∀ y ∈ L.take a, x ≤ y := fun y hy => by
      obtain ⟨j, hj⟩ := List.getElem?_of_mem hy
      have hja : j < a := by
        have := (List.getElem?_eq_some_iff.1 hj).1
        rw [List.length_take] at this
        omega
      rw [List.getElem?_take, if_pos hja] at hj
      exact h1 j y hja hj
    have q2 : ∀ y ∈ L.drop a, y ≤ x := fun y hy => by
      cases hL : L.drop a with
      | nil => rw [hL] at hy; cases hy
      | cons z zs =>
        have hz : L[a]? = some z := by
          have : (L.drop a)[0]? = some z := by rw [hL]; rfl
          rw [List.getElem?_drop] at this
          exact this
        have hzx := h2 z hz
        rw [hL] at hy p2
        rcases List.mem_cons.1 hy with rfl | hy
        · omega
        · have := (List.pairwise_cons.1 p2).1 y hy
          omega
    rw [List.pairwise_append, List.pairwise_append]
    refine ⟨⟨p1, List.pairwise_singleton _ _, fun u hu v hv => by simp at hv; subst hv; exact q1 u hu⟩, p2, fun u hu v hv => ?_⟩
    rcases List.mem_append.1 hu with hu | hu
    · exact p3 u hu v hv
    · simp at hu; subst hu; exact q2 v hv
end Go.PI
/- LISTS IN DESCENDING ORDER: falling, of the reference. -/
open Go.Proofs
namespace Go.PI
open IM
set_option maxRecDepth 20000
set_option maxHeartbeats 4000000
variable (S : FuncId → Option (List AV → Heap → Option (AV × Heap)))
theorem fn71 : ctx.fn 71 = some c71 := by kernel_rfl
theorem falling_ct (hS : OldO S) {xs : List Int} (hl : xs.length ≤ 1000) : Ct (ctx.plus S) 71 [pIs xs] 10000 fun r => r = pIs (dsc xs) := by
  refine ctO_of ⟨fun _ => false, fun _ => false, true⟩ (hS 71 (by decide)) fn71 ?_
  refine ⟨fun m s => ∃ (i b : Nat) (L : List Int) (σ : List StB) (T : List PV), s = ⟨T, σ, b⟩ ∧ Gt T 45 [(0, pIs xs), (3, pIs L), (4, pn i)] ∧ m = xs.length - i ∧ i ≤ xs.length ∧ b ≤ 6 * i ∧ Hid (L.Perm (xs.take i) ∧ L.Pairwise fun a b => b ≤ a), ⟨_, ⟨_, frzS_tmp (i := 3) (v := .nils) (by rfl) (by exact rfl), 0, 0, [], [], _, rfl, ⟨rfl, rfl, rfl, rfl, trivial⟩, rfl, Nat.zero_le _, Nat.le_refl _, ⟨List.Perm.refl _, List.Pairwise.nil⟩⟩⟩, ?_⟩
  rintro m s ⟨i, b, L, σ, T, rfl, hT, hm, hi, hb, hL⟩
  obtain ⟨J, rfl⟩ := gt_open hT
  clear hT
  have hLl : L.length = i := by have := hL.h.1.length_eq; rw [List.length_take] at this; omega
  refine ⟨fun hlt => ?_, fun hge => ?_⟩
  · obtain ⟨x, hx⟩ := xs_get (xs := xs) (i := i) (by omega)
    refine ⟨fun m s => ∃ (a : Nat) (T : List PV), s = ⟨T, σ, b⟩ ∧ Gt T 45 [(0, pIs xs), (3, pIs L), (4, pn i), (5, pn a)] ∧ m = L.length - a ∧ a ≤ L.length ∧ Hid (∀ j y, j < a → L[j]? = some y → x ≤ y), ⟨_, ci ⟨0, _, rfl, ⟨rfl, rfl, rfl, rfl, rfl, trivial⟩, rfl, Nat.zero_le _, ⟨fun j y h => by omega⟩⟩⟩, ?_⟩
    rintro m s ⟨a, T, rfl, hT, hm2, ha, hA⟩
    obtain ⟨J, rfl⟩ := gt_open hT
    clear hT
    refine ⟨by kernel_rfl, ?_⟩
    refine ⟨fun halt => ?_, fun hage => ?_⟩
    · obtain ⟨y, hy⟩ := xs_get (xs := L) (i := a) (by omega)
      refine ⟨⟨⟨by omega, by omega⟩, len_map_le (by omega)⟩, ?_⟩
      refine ⟨_, ld (at_map hy) (by show _ * 1 = a; omega), rfl, ?_⟩
      refine ⟨⟨⟨by omega, by omega⟩, len_map_le (by omega)⟩, ?_⟩
      refine ⟨_, ld (at_map hx) (by show _ * 1 = i; omega), rfl, ?_⟩
      refine ⟨fun hyx => ?_, fun hyx => ?_⟩
      · refine ⟨⟨by omega, by omega⟩, ?_⟩
        exact ⟨_, by omega, ci ⟨a + 1, _, rfl, ⟨rfl, rfl, rfl, rfl, by show pn _ = pn _; norm_cast, trivial⟩, rfl, by omega, ⟨fun j z hj hz => by
          by_cases e : j = a
          · subst e; rw [hy] at hz; cases hz; omega
          · exact hA.h j z (by omega) hz⟩⟩⟩
      · have h2 : ∀ z, L[a]? = some z → z < x := fun z hz => by rw [hy] at hz; cases hz; omega
        refine ⟨by kernel_rfl, ?_⟩
        refine ⟨by omega, part0 ⟨[], rfl, ?_⟩⟩
        have ea : ((a : Int).toNat - 0) = (L.take a).length := by rw [List.length_take]; omega
        refine ⟨by rw [List.length_map]; show L.length = L.length * 1; omega, ⟨by omega, by omega⟩, fun _ => rfl, (L.take a).map pn, ?_, ?_⟩
        · rw [List.map_take]; show List.take ((_ - 0) * 1) (List.drop (0 * 1) _) = _; simp
        rw [ea]
        refine ⟨by repeat (first | exact trivial | refine ⟨trivial, ?_⟩), ?_⟩
        refine appL S (xs := L.take a) (ys := []) (v := .own σ.length 0 0 0 1) (.inr (.inl ⟨σ.length, rfl, push_get⟩)) (by rw [List.length_take]; omega) (by simp) (by omega) fun v1 σ1 k1 hk1 hk1' hg1 => ?_
        refine ⟨⟨⟨by omega, by omega⟩, len_map_le (by omega)⟩, ?_⟩
        refine ⟨_, ld (at_map hx) (by show _ * 1 = i; omega), rfl, ?_⟩
        refine ⟨by omega, part1 fzI ⟨[pn x], rfl, ?_⟩⟩
        refine ⟨hg1.apW fun j => by repeat (first | exact trivial | refine ⟨trivial, ?_⟩), ?_⟩
        refine app1 S (x := x) hg1.push push_cont (by simp; omega) (by omega) fun v2 σ2 k2 hk2 hk2' hg2 => ?_
        have eb : (L.length - (a : Int).toNat) = (L.drop a).length := by rw [List.length_drop]; omega
        refine ⟨by rw [List.length_map]; show L.length = L.length * 1; omega, ⟨by omega, by omega⟩, fun _ => rfl, (L.drop a).map pn, ?_, ?_⟩
        · rw [List.map_drop]; show List.take ((_ - (a : Int).toNat) * 1) (List.drop ((a : Int).toNat * 1) _) = _; simp; exact List.take_of_length_le (by simp)
        rw [eb]
        refine ⟨hg2.apW fun j => by repeat (first | exact trivial | refine ⟨trivial, ?_⟩), ?_⟩
        refine appL S (xs := L.drop a) hg2 (by rw [List.length_drop]; omega) (by simp; omega) (by omega) fun v3 σ3 k3 hk3 hk3' hg3 => ?_
        refine ⟨⟨by omega, by omega⟩, ?_⟩
        obtain ⟨σ4, hf⟩ := hg3.fz
        obtain ⟨q1, q2⟩ := ins_ok hL.h.1 hL.h.2 ha hA.h h2
        refine ⟨_, by omega, ⟨_, frzS_tmp (i := 3) rfl (hf _ rfl), i + 1, _, L.take a ++ [x] ++ L.drop a, _, _, rfl, ⟨rfl, rfl, rfl, by show pn _ = pn _; norm_cast, trivial⟩, rfl, by omega, by omega, ⟨by rw [take_snoc hx]; exact q1, q2⟩⟩⟩
    · have h2 : ∀ z, L[a]? = some z → z < x := fun z hz => by rw [List.getElem?_eq_none (by omega)] at hz; cases hz
      refine ⟨by kernel_rfl, ?_⟩
      refine ⟨by omega, part0 ⟨[], rfl, ?_⟩⟩
      have ea : ((a : Int).toNat - 0) = (L.take a).length := by rw [List.length_take]; omega
      refine ⟨by rw [List.length_map]; show L.length = L.length * 1; omega, ⟨by omega, by omega⟩, fun _ => rfl, (L.take a).map pn, ?_, ?_⟩
      · rw [List.map_take]; show List.take ((_ - 0) * 1) (List.drop (0 * 1) _) = _; simp
      rw [ea]
      refine ⟨by repeat (first | exact trivial | refine ⟨trivial, ?_⟩), ?_⟩
      refine appL S (xs := L.take a) (ys := []) (v := .own σ.length 0 0 0 1) (.inr (.inl ⟨σ.length, rfl, push_get⟩)) (by rw [List.length_take]; omega) (by simp) (by omega) fun v1 σ1 k1 hk1 hk1' hg1 => ?_
      refine ⟨⟨⟨by omega, by omega⟩, len_map_le (by omega)⟩, ?_⟩
      refine ⟨_, ld (at_map hx) (by show _ * 1 = i; omega), rfl, ?_⟩
      refine ⟨by omega, part1 fzI ⟨[pn x], rfl, ?_⟩⟩
      refine ⟨hg1.apW fun j => by repeat (first | exact trivial | refine ⟨trivial, ?_⟩), ?_⟩
      refine app1 S (x := x) hg1.push push_cont (by simp; omega) (by omega) fun v2 σ2 k2 hk2 hk2' hg2 => ?_
      have eb : (L.length - (a : Int).toNat) = (L.drop a).length := by rw [List.length_drop]; omega
      refine ⟨by rw [List.length_map]; show L.length = L.length * 1; omega, ⟨by omega, by omega⟩, fun _ => rfl, (L.drop a).map pn, ?_, ?_⟩
      · rw [List.map_drop]; show List.take ((_ - (a : Int).toNat) * 1) (List.drop ((a : Int).toNat * 1) _) = _; simp; exact List.take_of_length_le (by simp)
      rw [eb]
      refine ⟨hg2.apW fun j => by repeat (first | exact trivial | refine ⟨trivial, ?_⟩), ?_⟩
      refine appL S (xs := L.drop a) hg2 (by rw [List.length_drop]; omega) (by simp; omega) (by omega) fun v3 σ3 k3 hk3 hk3' hg3 => ?_
      refine ⟨⟨by omega, by omega⟩, ?_⟩
      obtain ⟨σ4, hf⟩ := hg3.fz
      obtain ⟨q1, q2⟩ := ins_ok hL.h.1 hL.h.2 ha hA.h h2
      refine ⟨_, by omega, ⟨_, frzS_tmp (i := 3) rfl (hf _ rfl), i + 1, _, L.take a ++ [x] ++ L.drop a, _, _, rfl, ⟨rfl, rfl, rfl, by show pn _ = pn _; norm_cast, trivial⟩, rfl, by omega, by omega, ⟨by rw [take_snoc hx]; exact q1, q2⟩⟩⟩
  · have hii : i = xs.length := by omega
    subst hii
    have : L = dsc xs := dsc_eq (by have := hL.h.1; rwa [List.take_of_length_le (Nat.le_refl _)] at this) hL.h.2
    rw [this]
    exact endq rfl rfl
end Go.PI
/- PRODUCTS OF THE LIBRARY, by 1; one number, repeated. -/
open Go.Proofs
namespace Go.PI
open IM
set_option maxRecDepth 20000
set_option maxHeartbeats 4000000
variable (S : FuncId → Option (List AV → Heap → Option (AV × Heap)))
theorem fn195 : ctx.fn 195 = some c195 := by kernel_rfl
theorem fn167 : ctx.fn 167 = some c167 := by kernel_rfl
abbrev pu (n : Int) : PV := .int .u64 n
theorem mul64_ct (hS : OldO S) {n : Nat} (hn : n ≤ 20) : Ct (ctx.plus S) 195 [pu 1, pu n] 0 fun r => r = .tup [pu 0, pu n] := by
  refine ct_of (hS 195 (by decide)) fn195 ?_
  refine ⟨rfl, _, rfl, ?_⟩
  refine ⟨_, rfl, ?_⟩
  refine ⟨rfl, _, rfl, ?_⟩
  refine ⟨_, rfl, ?_⟩
  refine ⟨rfl, _, rfl, ?_⟩
  refine ⟨rfl, _, rfl, ?_⟩
  refine ⟨_, rfl, ?_⟩
  refine ⟨rfl, _, rfl, ?_⟩
  refine ⟨rfl, _, rfl, ?_⟩
  refine ⟨_, rfl, ?_⟩
  refine ⟨rfl, _, rfl, ?_⟩
  refine ⟨rfl, _, rfl, ?_⟩
  refine ⟨rfl, _, rfl, ?_⟩
  refine ⟨rfl, _, rfl, ?_⟩
  refine ⟨_, rfl, ?_⟩
  refine ⟨rfl, _, rfl, ?_⟩
  refine ⟨rfl, _, rfl, ?_⟩
  refine endsq rfl ?_
  rcases (show n = 0 ∨ n = 1 ∨ n = 2 ∨ n = 3 ∨ n = 4 ∨ n = 5 ∨ n = 6 ∨ n = 7 ∨ n = 8 ∨ n = 9 ∨ n = 10 ∨ n = 11 ∨ n = 12 ∨ n = 13 ∨ n = 14 ∨ n = 15 ∨ n = 16 ∨ n = 17 ∨ n = 18 ∨ n = 19 ∨ n = 20 by omega) with rfl | rfl | rfl | rfl | rfl | rfl | rfl | rfl | rfl | rfl | rfl | rfl | rfl | rfl | rfl | rfl | rfl | rfl | rfl | rfl | rfl <;> rfl
theorem mul_ct (hS : OldO S) {n : Nat} (hn : n ≤ 20) : Ct (ctx.plus S) 167 [.int .u64 (1 : Nat), .int .u64 n] 0 fun r => r = .tup [.int .u64 (0 : Nat), .int .u64 n] := by
  refine ct_of (hS 167 (by decide)) fn167 ?_
  refine callq rfl (mul64_ct S hS hn) (by omega) ?_
  rintro _ rfl
  exact endsq rfl rfl
def rep2 (n m : Nat) (a : Int) : List Int := List.replicate m a ++ List.replicate (n - m) 0
theorem rep2_len {n m : Nat} {a : Int} (h : m ≤ n) : (rep2 n m a).length = n := by simp [rep2]; omega
theorem rep2_put {n m k : Nat} {a : Int} (h : m + k ≤ n) : pspl ((rep2 n m a).map pn) m ((List.replicate k a).map pn) = (rep2 n (m + k) a).map pn := by
  unfold pspl rep2
  rw [← List.map_take, ← List.map_drop, List.length_map, List.length_replicate, ← List.map_append, ← List.map_append]
  congr 1
  rw [List.take_left' (by simp), List.drop_append, List.length_replicate, List.drop_of_length_le (by simp), List.nil_append, List.drop_replicate, List.replicate_append_replicate, show n - m - (m + k - m) = n - (m + k) by omega]
theorem int_zero {n : Nat} : (List.replicate n [pn 0]).flatten = (List.replicate n (0 : Int)).map pn := by
  induction n with
  | zero => rfl
  | succ n ih => rw [List.replicate_succ, List.replicate_succ, List.flatten_cons, ih]; rfl
theorem ones_pn {n : Nat} {a : Int} : pones ((List.replicate n a).map pn) = true := pones_pn _
theorem fn135 : ctx.fn 135 = some c135 := by kernel_rfl
theorem repeatI_cf (hS : OldO S) {a : Int} {n : Nat} (h0 : 0 < n) (hn : n ≤ 20) : Cfr (ctx.plus S) 135 [pIs [a], pn n] 2 fun ty m cp e cs => ty = 3 ∧ m = n ∧ cp = n ∧ e = 1 ∧ cs = (List.replicate n a).map pn := by
  refine cf_of (hS 135 (by decide)) fn135 ?_
  refine ⟨fun h => absurd h (by omega), fun _ => ?_⟩
  have hw : ∀ m : Nat, m ≤ 2000 → IntKind.u64.wrap (m : Int) = m := fun m hm => by
    show (m : Int) % 18446744073709551616 = m
    omega
  have hM2 : Ct (ctx.plus S) 167 [.int .u64 (IntKind.u64.wrap ([a].length : Nat)), .int .u64 (IntKind.u64.wrap (n : Nat))] 0 fun r => r = .tup [.int .u64 (0 : Nat), .int .u64 n] := by
    rw [hw n (by omega), hw [a].length (by show 1 ≤ 2000; omega)]
    exact mul_ct S hS hn
  refine callq rfl hM2 (by omega) ?_
  rintro _ rfl
  have hwi : IntKind.i64.wrap (n : Int) = n := wrap64 (by unfold In64; omega)
  refine ⟨rfl, .bool false, rfl, ?_⟩
  refine ⟨rfl, .bool false, by show some (AV.bool (decide ((n : Int) > 9223372036854775807))) = _; rw [decide_eq_false (by omega)], ?_⟩
  have mk : (1 ≤ (n : Int)) := by omega
  refine ⟨by omega, ⟨by rw [hwi]; omega, by rw [hwi]; omega, by rw [hwi]; omega⟩, _, int_zero, ?_⟩
  rw [hwi]
  have hrep : (List.replicate (n : Int).toNat (0 : Int)).length = n := by simp
  have e0 : List.replicate (n : Int).toNat (0 : Int) = rep2 n 0 a := by simp [rep2]
  have hmin : min 1 (n : Int).toNat = 1 := by omega
  refine ⟨rfl, _, _, _, rfl, ⟨by rw [List.length_map, hrep]; show 0 + min 1 (n : Int).toNat * 1 ≤ n; omega, by show min 1 (n : Int).toNat * 1 ≤ 1; omega, ?_⟩, (show pspl ((List.replicate (n : Int).toNat (0 : Int)).map pn) 0 (((pn a) :: []).take (min 1 (n : Int).toNat * 1)) = (rep2 n 1 a).map pn by rw [e0, hmin]; exact rep2_put (m := 0) (k := 1) (by omega)), ?_⟩
  · show pones (((pn a) :: []).take (min 1 (n : Int).toNat * 1)) = true
    rw [hmin]; rfl
  refine ⟨fun q st => ∃ (m : Nat) (T : List PV), st = ⟨T, [.live 3 ((rep2 n m a).map pn)], 1⟩ ∧ Gt T 48 [(7, .own 0 0 n n 1), (8, pn m)] ∧ q = n - m ∧ 1 ≤ m ∧ m ≤ n, ⟨_, ci ⟨1, _, rfl, ⟨rfl, by show PV.own 0 0 (n : Int).toNat (n : Int).toNat 1 = .own 0 0 n n 1; rw [Int.toNat_natCast], by show pn (min 1 (n : Int).toNat : Nat) = pn (1 : Nat); rw [hmin], trivial⟩, rfl, Nat.le_refl _, by omega⟩⟩, ?_⟩
  rintro _ st ⟨m, T, rfl, hT, rfl, hm, hmn⟩
  obtain ⟨J, rfl⟩ := gt_open hT
  clear hT
  refine ⟨fun hlt => ?_, fun hge => ?_⟩
  · refine ⟨by kernel_rfl, ?_⟩
    refine ⟨Nat.le_refl _, ⟨by omega, by omega⟩, m, by rw [if_neg (show n ≠ (m : Int).toNat by rw [Int.toNat_natCast]; omega)]; show 0 + m * 1 = m; omega, ?_⟩
    refine ⟨Nat.le_refl _, ⟨by omega, by omega⟩, 0, by rw [if_neg (by omega)]; rfl, ?_⟩
    have hrl := rep2_len (a := a) hmn
    obtain ⟨k, hk⟩ : ∃ k, k = min m (n - m) := ⟨_, rfl⟩
    have hml : ((rep2 n m a).map pn).length = n := by rw [List.length_map, hrl]
    refine ⟨_, _, (List.replicate m a).map pn, rfl, by rw [hml]; show 0 + m * 1 ≤ n; omega, ?_, ?_⟩
    · show (((rep2 n m a).map pn).drop 0).take (m * 1) = _
      rw [List.drop_zero, Nat.mul_one, ← List.map_take]
      unfold rep2
      rw [List.take_left' (by simp)]
    have htk : ((List.replicate m a).map pn).take (min m (n - m) * 1) = (List.replicate k a).map pn := by
      rw [Nat.mul_one, ← hk, ← List.map_take, List.take_replicate, Nat.min_eq_left (by omega)]
    refine ⟨_, _, (rep2 n (m + k) a).map pn, rfl, ⟨by rw [hml]; show m + min m (n - m) * 1 ≤ n; omega, by show min m (n - m) * 1 ≤ _; rw [List.length_map, List.length_replicate]; omega, by show pones (((List.replicate m a).map pn).take (min m (n - m) * 1)) = true; rw [htk]; exact ones_pn⟩, by show pspl _ m (((List.replicate m a).map pn).take (min m (n - m) * 1)) = _; rw [htk]; exact rep2_put (by omega), ?_⟩
    refine ⟨⟨by omega, by omega⟩, ?_⟩
    refine ⟨n - (m + k), by omega, ci ⟨m + k, _, rfl, ⟨rfl, rfl, by show pn ((m : Int) + (min m (n - m) : Nat)) = pn ((m + k : Nat) : Int); rw [← hk]; congr 1, trivial⟩, rfl, by omega, by omega⟩⟩
  · have hmn2 : m = n := by omega
    rw [hmn2]
    refine ⟨⟨_, _, _, _, _, _, rfl, rfl, rfl, rfl, rfl, ⟨rfl, by simp [rep2]⟩⟩⟩
theorem repeat0_cf (hS : OldO S) {a : Int} : Cfr (ctx.plus S) 135 [pIs [a], pn (0 : Nat)] 2 fun ty m cp e cs => ty = 3 ∧ m = 0 ∧ cp = 0 ∧ e = 1 ∧ cs = [] := by
  refine cf_of (hS 135 (by decide)) fn135 ?_
  refine ⟨fun h => absurd h (by omega), fun _ => ?_⟩
  refine callq rfl (mul_ct S hS (n := 0) (by omega)) (by omega) ?_
  rintro _ rfl
  refine ⟨rfl, .bool false, rfl, ?_⟩
  refine ⟨rfl, .bool false, rfl, ?_⟩
  refine ⟨by omega, ⟨by decide, by decide, by decide⟩, _, rfl, ?_⟩
  refine ⟨rfl, _, _, _, rfl, ⟨Nat.le_refl 0, Nat.zero_le _, rfl⟩, rfl, ?_⟩
  refine ⟨fun q st => ∃ (T : List PV), st = ⟨T, [.live 3 []], 1⟩ ∧ Gt T 48 [(7, .own 0 0 0 0 1), (8, pn (0 : Nat))] ∧ q = 0, ⟨_, ci ⟨_, rfl, ⟨rfl, rfl, rfl, trivial⟩, rfl⟩⟩, ?_⟩
  rintro _ st ⟨T, rfl, hT, rfl⟩
  obtain ⟨J, rfl⟩ := gt_open hT
  clear hT
  refine ⟨fun hlt => absurd hlt (by decide), fun hge => ?_⟩
  exact ⟨⟨_, _, _, _, _, _, rfl, rfl, rfl, rfl, rfl, ⟨rfl, rfl⟩⟩⟩
end Go.PI
