/- Own work of the verifier: CqE CpC CqF. -/
import Derived.Test.YtdflpkkgjppmgaaGreatCcBG
import Derived.Test.YtdflpkkgjppmgaaGreatCcBF
set_option linter.all false
set_option exponentiation.threshold 3000
set_option linter.deprecated false
/- THE TYPE OF A PERMUTATION, of the reference. -/
open Go.Proofs
namespace Go.PI
open IM
set_option maxRecDepth 20000
set_option maxHeartbeats 4000000
variable (S : FuncId → Option (List AV → Heap → Option (AV × Heap)))
theorem fn28 : ctx.fn 28 = some c28 := by kernel_rfl
theorem fn29 : ctx.fn 29 = some c29 := by kernel_rfl
theorem isPerm_ct (hS : OldO S) {xs : List Int} (hl : xs.length ≤ 1000000) : Ct (ctx.plus S) 28 [pIs xs] 2 fun r => r = .bool (decide (chkP xs = 0)) := by
  refine ct_of (hS 28 (by decide)) fn28 ?_
  refine ⟨by omega, ⟨by omega, by omega, by omega⟩, _, flg_zero, ?_⟩
  have hn0 : SeenF xs 0 (List.replicate xs.length false) := ⟨by simp, by simp, fun j => by
    simp only [List.take_zero, List.not_mem_nil, false_and, iff_false]
    rw [List.getElem?_replicate]
    split <;> simp⟩
  refine ⟨fun m s => ∃ (i : Nat) (fl : List Bool) (T : List PV), s = ⟨T, [.live 4 (fl.map PV.bool)], 1⟩ ∧ Gt T 38 [(0, pIs xs), (3, .own 0 0 xs.length xs.length 1), (4, pn i)] ∧ m = xs.length - i ∧ i ≤ xs.length ∧ Hid (SeenF xs i fl ∧ ∀ x ∈ xs.take i, 0 ≤ x ∧ x < xs.length), ⟨_, ci ⟨0, _, _, rfl, ⟨rfl, rfl, rfl, rfl, trivial⟩, rfl, Nat.zero_le _, ⟨hn0, fun x hx => by simp at hx⟩⟩⟩, ?_⟩
  rintro _ s ⟨i, fl, T, rfl, hT, rfl, hi, hn⟩
  obtain ⟨J, rfl⟩ := gt_open hT
  clear hT
  refine ⟨fun hlt => ?_, fun hge => ?_⟩
  · obtain ⟨e, he⟩ := xs_get (xs := xs) (i := i) (by omega)
    have hem := List.mem_of_getElem? he
    refine ⟨⟨⟨by omega, by omega⟩, len_map_le (by omega)⟩, ?_⟩
    refine ⟨_, ld (at_map he) (by show _ * 1 = i; omega), ?_⟩
    refine ⟨⟨by omega, by omega⟩, ?_⟩
    refine callq rfl (rwithin_ct S hS) (by omega) ?_
    rintro _ rfl
    by_cases hw : 0 ≤ e ∧ e ≤ (xs.length : Int) - 1
    · rw [decide_eq_true hw]
      obtain ⟨j, rfl⟩ : ∃ j : Nat, e = j := ⟨e.toNat, by omega⟩
      have hj : j < xs.length := by omega
      have hfl : fl.length = xs.length := hn.h.1.1
      obtain ⟨b, hb⟩ : ∃ b, fl[j]? = some b := ⟨fl[j]'(by omega), List.getElem?_eq_getElem _⟩
      refine ⟨⟨⟨by omega, by omega⟩, len_map_le (by omega)⟩, ?_⟩
      refine ⟨_, ld (at_map he) (by show _ * 1 = i; omega), ?_⟩
      refine ⟨⟨by omega, by omega⟩, ?_⟩
      refine ⟨_, load_k rfl rfl rfl (at_map hb) (by show 0 + _ * 1 = j; omega), ?_⟩
      cases b with
      | true =>
        refine endq rfl ?_
        rw [decide_eq_false]
        intro hc
        rcases chkP_cases xs with ⟨-, a, hnd⟩ | a | a
        · have h1 := ((hn.h.1.2.2 j).1 hb).1
          obtain ⟨q, hq⟩ := List.getElem?_of_mem h1
          have hqi : q < i := by
            have := (List.getElem?_eq_some_iff.1 hq).1
            rw [List.length_take] at this; omega
          rw [List.getElem?_take, if_pos hqi] at hq
          rw [← he] at hq
          have := (List.getElem?_inj (by omega) hnd).1 hq
          omega
        · rw [a] at hc; omega
        · rw [a] at hc; omega
      | false =>
        refine ⟨⟨⟨by omega, by omega⟩, len_map_le (by omega)⟩, ?_⟩
        refine ⟨_, ld (at_map he) (by show _ * 1 = i; omega), ?_⟩
        refine ⟨⟨by omega, by omega⟩, ?_⟩
        refine ⟨_, _, rfl, ⟨rfl, by rw [List.length_map]; show 0 + j * 1 + 1 ≤ _; omega, rfl⟩, _, flg_put (by show 0 + j * 1 = j; omega) (by omega), _, rfl, ?_⟩
        refine ⟨⟨by omega, by omega⟩, ?_⟩
        exact ⟨_, by omega, ci ⟨i + 1, _, _, rfl, ⟨rfl, rfl, rfl, by show pn _ = pn _; norm_cast, trivial⟩, rfl, by omega, ⟨seen_next hn.h.1 he hj hb, fun x hx => by
          rw [take_snoc he] at hx
          rcases List.mem_append.1 hx with hx | hx
          · exact hn.h.2 x hx
          · rw [List.mem_singleton.1 hx]; omega⟩⟩⟩
    · rw [decide_eq_false hw]
      refine endq rfl ?_
      rw [decide_eq_false]
      intro hc
      rcases chkP_cases xs with ⟨-, a, b⟩ | a | a
      · have := a _ hem; omega
      · rw [a] at hc; omega
      · rw [a] at hc; omega
  · refine endq rfl ?_
    obtain ⟨h1, h2⟩ := hn.h
    rw [List.take_of_length_le (by omega)] at h2
    have h3 := h1.2.1
    rw [List.take_of_length_le (by omega)] at h3
    rw [decide_eq_true (chk0 h2 h3)]
def lnz (X : List (List Int)) : List Int := X.map fun x => (x.length : Int)
theorem lnz_yes {i : Nat} {f : Nat → Nat} (h : lead f i) : lnz (cycs (i + 1) f) = lnz (cycs i f) ++ [(ordr f i : Int)] := by
  rw [cycs_yes h]
  unfold lnz
  rw [List.map_append]
  simp [cyc_len]
theorem lnz_no {i : Nat} {f : Nat → Nat} (h : ¬ lead f i) : lnz (cycs (i + 1) f) = lnz (cycs i f) := by rw [cycs_no h]
theorem lnz_len (X : List (List Int)) : (lnz X).length = X.length := by simp [lnz]
theorem seen_at {n : Nat} {f g : Nat → Nat} (h : IsP n f g) {i k : Nat} (hi : i < n) (hl : lead f i) (hk : k ≤ ordr f i) {fl : List Bool} (hd : DoneTo n f i k fl) {q : Bool} (hq : fl[it f k i]? = some q) : q = true ↔ k = ordr f i := by
  obtain ⟨o1, o2, o3, o4⟩ := ordr_spec h hi
  have hit := it_lt h hi k
  have hs := hd.2 (it f k i) hit
  rw [hq] at hs
  constructor
  · intro e
    subst e
    rcases hs.1 rfl with ⟨x, hx, hc⟩ | hc
    · have h1 : InC f i x := InC.trans ⟨k, rfl⟩ (hc.symm h (by omega))
      have := hl x h1
      omega
    · unfold cycTo at hc
      obtain ⟨j, hj, e⟩ := List.mem_map.1 hc
      have hj' := List.mem_range.1 hj
      have e' : it f j i = it f k i := by omega
      rw [show k = j + (k - j) by omega, it_add] at e'
      have := it_inj h hi (it_lt h hi _) e'
      rcases Nat.lt_or_ge (k - j) (ordr f i) with h1 | h1
      · exact absurd this.symm (o4 (k - j) (by omega) h1)
      · omega
  · intro e
    have : some q = some true := hs.2 (.inr (by
      rw [e, o2]
      unfold cycTo
      exact List.mem_map.2 ⟨0, List.mem_range.2 (by omega), rfl⟩))
    cases this
    rfl
theorem rcycType_ct (hS : OldO S) {n : Nat} {f g : Nat → Nat} (h : IsP n f g) (hn : n ≤ 100) : Ct (ctx.plus S) 29 [pIs (PL n f)] 20000 fun r => r = pIs (dsc (lnz (cycs n f))) := by
  obtain ⟨xs, hx⟩ : ∃ xs, xs = PL n f := ⟨_, rfl⟩
  have hl : xs.length = n := by rw [hx, PL_len]
  rw [← hx]
  refine ct_of (hS 29 (by decide)) fn29 ?_
  refine ⟨by omega, ⟨by omega, by omega, by omega⟩, _, flg_zero, ?_⟩
  have hd0 : Done n f 0 (List.replicate xs.length false) := ⟨by simp [hl], fun y hy => by
    rw [List.getElem?_replicate]
    constructor
    · intro h; split at h <;> simp at h
    · rintro ⟨x, hx, -⟩; omega⟩
  refine ⟨fun m s => ∃ (i b : Nat) (v : PV) (σ : List StB) (fl : List Bool) (T : List PV), s = ⟨T, σ, b⟩ ∧ Gt T 40 [(0, pIs xs), (3, .own 0 0 xs.length xs.length 1), (4, v), (5, pn i)] ∧ m = n - i ∧ i ≤ n ∧ b ≤ 1 + i * 2 ∧ Hid (σ[0]? = some (.live 4 (fl.map PV.bool)) ∧ blkOf v ≠ some 0 ∧ Gr pn 3 v σ (lnz (cycs i f)) ∧ Done n f i fl), ⟨_, ci ⟨0, 1, .nils, [.live 4 ((List.replicate xs.length false).map PV.bool)], _, _, rfl, ⟨rfl, rfl, rfl, rfl, rfl, trivial⟩, rfl, Nat.zero_le _, by omega, ⟨rfl, (fun h => by cases h), .nil, hd0⟩⟩⟩, ?_⟩
  rintro _ s ⟨i, b, v, σ, fl, T, rfl, hT, rfl, hi, hb, hh⟩
  obtain ⟨J, rfl⟩ := gt_open hT
  clear hT
  obtain ⟨h0, hbv, hg, hd⟩ := hh.h
  clear hh
  have hfl : fl.length = n := hd.1
  refine ⟨fun hlt => ?_, fun hge => ?_⟩
  · have hin : i < n := by omega
    obtain ⟨o1, o2, o3, o4⟩ := ordr_spec h hin
    have hgv : Hid (blkOf v ≠ some 0 ∧ Gr pn 3 v σ (lnz (cycs i f)) ∧ Done n f i fl) := ⟨hbv, hg, hd⟩
    clear hbv hg hd
    by_cases hld : lead f i
    · refine ⟨fun m s => ∃ (k : Nat) (σ' : List StB) (fl' : List Bool) (T : List PV), s = ⟨T, σ', b⟩ ∧ Gt T 40 [(0, pIs xs), (3, .own 0 0 xs.length xs.length 1), (4, v), (5, pn i), (6, pn k), (7, pn (it f k i : Nat))] ∧ m = ordr f i - k ∧ k ≤ ordr f i ∧ Hid (σ'[0]? = some (.live 4 (fl'.map PV.bool)) ∧ Gr pn 3 v σ' (lnz (cycs i f)) ∧ DoneTo n f i k fl'), ⟨_, ci ⟨0, σ, fl, _, rfl, ⟨rfl, rfl, rfl, rfl, rfl, rfl, rfl, trivial⟩, rfl, Nat.zero_le _, ⟨h0, hgv.h.2.1, done_to hgv.h.2.2⟩⟩⟩, ?_⟩
      rintro _ s ⟨k, σ', fl', T, rfl, hT, rfl, hk, hk2⟩
      obtain ⟨J, rfl⟩ := gt_open hT
      clear hT
      have hfl' : fl'.length = n := hk2.h.2.2.1
      have hit := it_lt h hin k
      obtain ⟨q, hq⟩ : ∃ q, fl'[it f k i]? = some q := ⟨fl'[it f k i]'(by omega), List.getElem?_eq_getElem _⟩
      have hsa := seen_at h hin hld hk hk2.h.2.2 hq
      refine ⟨⟨by omega, by omega⟩, ?_⟩
      refine ⟨_, load_k rfl rfl (contOf_live hk2.h.1) (at_map hq) (by show 0 + _ * 1 = it f k i; omega), ?_⟩
      cases q with
      | false =>
        have hko : k < ordr f i := by
          rcases Nat.lt_or_ge k (ordr f i) with a | a
          · exact a
          · have := hsa.2 (by omega)
            cases this
        refine ⟨⟨by omega, by omega⟩, ?_⟩
        refine ⟨_, _, hk2.h.1, ⟨rfl, by rw [List.length_map]; show 0 + it f k i * 1 + 1 ≤ _; omega, rfl⟩, _, flg_put (j := it f k i) (by show 0 + it f k i * 1 = it f k i; omega) (by omega), _, rfl, ?_⟩
        refine ⟨⟨by omega, by omega⟩, ?_⟩
        refine ⟨⟨⟨by omega, by omega⟩, len_map_le (by omega)⟩, ?_⟩
        refine ⟨_, ld (at_map (by rw [hx]; exact PL_get hit)) (by show _ * 1 = it f k i; omega), ?_⟩
        have hs0 := (List.getElem?_eq_some_iff.1 hk2.h.1).1
        exact ⟨_, by omega, ci ⟨k + 1, _, _, _, rfl, ⟨rfl, rfl, rfl, rfl, rfl, by show pn _ = pn _; norm_cast, rfl, trivial⟩, rfl, by omega, ⟨by rw [List.getElem?_set_self hs0], hk2.h.2.1.keep (fun j x hj hx => by
          rw [List.getElem?_set_ne (fun e => hgv.h.1 (by rw [hj, ← e]))]; exact hx), doneTo_next h hin hk2.h.2.2⟩⟩⟩
      | true =>
        have hko := hsa.1 rfl
        subst hko
        refine ⟨fun _ => ?_, fun hc => by omega⟩
        have hcn := cycs_len (f := f) (show i ≤ n by omega)
        refine ⟨by omega, part1 fzI ⟨[pn (ordr f i : Nat)], rfl, ?_⟩⟩
        refine appG (f := pn) (e := 3) (y := ((ordr f i : Nat) : Int)) hk2.h.2.1.push push_cont rfl rfl rfl rfl (by kernel_rfl) rfl rfl (by rw [lnz_len]; omega) (by omega) fun v' σ2 hv' hkeep hb' => ?_
        refine ⟨⟨by omega, by omega⟩, ?_⟩
        have hlen : (σ' ++ [StB.live 3 [pn (ordr f i : Nat)]]).length = σ'.length + 1 := by simp
        exact ⟨_, by omega, ci ⟨i + 1, _, v', σ2, fl', _, rfl, ⟨rfl, rfl, rfl, rfl, by show pn _ = pn _; norm_cast, trivial⟩, rfl, by omega, by omega, ⟨hkeep 0 _ hgv.h.1 (push_old hk2.h.1), (fun e => by rw [hb', hlen] at e; cases e), lnz_yes hld ▸ hv', doneTo_done h hin hk2.h.2.2⟩⟩⟩
    · obtain ⟨q, hq⟩ : ∃ q, fl[i]? = some q := ⟨fl[i]'(by omega), List.getElem?_eq_getElem _⟩
      have hqt : q = true := by
        have := (hgv.h.2.2.2 i hin).2 ((not_lead h hin).2 hld)
        rw [hq] at this
        cases this
        rfl
      subst hqt
      refine ⟨fun m s => ∃ (T : List PV), s = ⟨T, σ, b⟩ ∧ Gt T 40 [(0, pIs xs), (3, .own 0 0 xs.length xs.length 1), (4, v), (5, pn i), (6, pn 0), (7, pn i)] ∧ m = 0, ⟨_, ci ⟨_, rfl, ⟨rfl, rfl, rfl, rfl, rfl, rfl, rfl, trivial⟩, rfl⟩⟩, ?_⟩
      rintro _ s ⟨T, rfl, hT, rfl⟩
      obtain ⟨J, rfl⟩ := gt_open hT
      clear hT
      refine ⟨⟨by omega, by omega⟩, ?_⟩
      refine ⟨_, load_k rfl rfl (contOf_live h0) (at_map hq) (by show 0 + _ * 1 = i; omega), ?_⟩
      refine ⟨fun hc => absurd hc (by decide), fun _ => ?_⟩
      refine ⟨⟨by omega, by omega⟩, ?_⟩
      exact ⟨_, by omega, ci ⟨i + 1, b, v, σ, fl, _, rfl, ⟨rfl, rfl, rfl, rfl, by show pn _ = pn _; norm_cast, trivial⟩, rfl, by omega, by omega, ⟨h0, hgv.h.1, lnz_no hld ▸ hgv.h.2.1, done_skip h hin hgv.h.2.2 hld⟩⟩⟩
  · have hin : i = n := by omega
    subst hin
    obtain ⟨σ', hf⟩ := hg.fz
    have hcn := cycs_len (f := f) (Nat.le_refl i)
    refine cal1 hf (falling_ct S hS (xs := lnz (cycs i f)) (by rw [lnz_len]; omega)) (by omega) ?_
    rintro _ rfl
    exact endq rfl rfl
end Go.PI
/- THE LAW OF STRATA. -/
open Go.Proofs
namespace Go.PI
open IM
set_option maxRecDepth 20000
set_option maxHeartbeats 4000000
variable (S : FuncId → Option (List AV → Heap → Option (AV × Heap)))
theorem fn11 : ctx.fn 11 = some c11 := by kernel_rfl
theorem long_ct (hS : OldO S) {xs : List Int} : Ct (ctx.plus S) 11 [pIs xs] 0 fun r => r = .bool (decide (40 < xs.length)) := by
  refine ct_of (hS 11 (by decide)) fn11 ?_
  refine ⟨fun h => ?_, fun h => ?_⟩
  · exact endq rfl (by rw [decide_eq_true (by omega)])
  · exact endq rfl (by rw [decide_eq_false (by omega)])
end Go.PI
/- THE LAW OF CYCLES. -/
open Go.Proofs
namespace Go.PI
open IM
set_option maxRecDepth 20000
set_option maxHeartbeats 4000000
variable (S : FuncId → Option (List AV → Heap → Option (AV × Heap)))
theorem fn4 : ctx.fn 4 = some c4 := by kernel_rfl
theorem lnz_lns (X : List (List Int)) : lnz X = lns X := rfl
theorem numV_form {xs : List Int} {X : Int} (h : ckV xs = 0) : numV xs X = .tup [pI X, pn 0] := by unfold numV; rw [if_pos h]
theorem numV_bad {xs : List Int} {X : Int} (h : ckV xs ≠ 0) : numV xs X = .tup [pIs [], pn (ckV xs)] := by unfold numV; rw [if_neg h]; rfl
theorem cyclesLaw_ct (hS : OldO S) (hs : S 112 = some sSort) {dA : Nat} (hA : Ct (ctx.plus S) 12 [] dA fun r => r = .bool true) {xs ys : List Int} : Ct (ctx.plus S) 4 [pIs xs, pIs ys] (100000000 + dA) fun r => r = .bool true := by
  refine ct_of (hS 4 (by decide)) fn4 ?_
  refine callq rfl (long_ct S hS) (by omega) ?_
  rintro _ rfl
  by_cases hlx : 40 < xs.length
  · rw [decide_eq_true hlx]
    refine callq rfl hA (by omega) ?_
    rintro _ rfl
    exact endq rfl rfl
  rw [decide_eq_false hlx]
  refine callq rfl (long_ct S hS) (by omega) ?_
  rintro _ rfl
  by_cases hly : 40 < ys.length
  · rw [decide_eq_true hly]
    refine callq rfl hA (by omega) ?_
    rintro _ rfl
    exact endq rfl rfl
  rw [decide_eq_false hly]
  refine callq rfl (centralizer_ct S hS (by omega)) (by omega) ?_
  rintro _ rfl
  by_cases hb : ckV xs = 0
  · obtain ⟨k1, k2, k3, k4⟩ := ckV_ok hb
    have k2' : ∀ x ∈ xs, 1 ≤ x := fun x hx => (k2 x hx).1
    have c1 := (cen_bd k2' (i := xs.length) (Nat.le_refl _))
    have hge := sm_ge k2'
    rw [List.take_of_length_le (Nat.le_refl _)] at c1
    have f2 := fac_20 (n := (sm xs).toNat) (by omega)
    have d1 := dig_18 (X := cen xs xs.length) (by omega)
    have q1 : 0 ≤ ((fac (sm xs).toNat : Nat) : Int) / cen xs xs.length := Int.ediv_nonneg (by omega) (by omega)
    have q2 : ((fac (sm xs).toNat : Nat) : Int) / cen xs xs.length ≤ (fac (sm xs).toNat : Nat) := Int.ediv_le_self _ (by omega)
    have d2 := dig_18 (X := ((fac (sm xs).toNat : Nat) : Int) / cen xs xs.length) (by omega)
    rw [numV_form hb]
    refine callq rfl (classSize_ct S hS (by omega)) (by omega) ?_
    rintro _ rfl
    rw [numV_form hb]
    refine callq rfl (cycType_ct S hS hs (xs := ys) (by omega)) (by omega) ?_
    intro r hr
    have hyp : ∃ (zs : List Int) (e : Int), r = .tup [pIs zs, pn e] ∧ zs.length ≤ 1000 ∧ ((20 < ys.length ∧ e = 8 ∧ zs = []) ∨ (ys.length ≤ 20 ∧ chkP ys ≠ 0 ∧ e = 3 ∧ zs = []) ∨ (ys.length ≤ 20 ∧ chkP ys = 0 ∧ e = 0 ∧ ∃ f g, ys = PL ys.length f ∧ IsP ys.length f g ∧ zs = dsc (lns (cycs ys.length f)))) := by
      rcases hr with ⟨a, rfl⟩ | ⟨a, a2, rfl⟩ | ⟨a, a2, f, g, e, hp, rfl⟩
      · exact ⟨_, _, rfl, by decide, .inl ⟨a, rfl, rfl⟩⟩
      · exact ⟨_, _, rfl, by decide, .inr (.inl ⟨a, a2, rfl, rfl⟩)⟩
      · exact ⟨_, _, rfl, by rw [dsc_len]; have := lns_perm ys.length f; omega, .inr (.inr ⟨a, a2, rfl, f, g, e, hp, rfl⟩)⟩
    clear hr
    obtain ⟨zs, e, rfl, hzl, hyp⟩ := hyp
    refine callq rfl (rck_ct S hS (by omega)) (by omega) ?_
    rintro _ rfl
    rw [hb]
    refine ⟨fun h => absurd rfl h, fun _ => ?_⟩
    refine ⟨fun h => absurd rfl h, fun _ => ?_⟩
    refine ⟨fun h => absurd rfl h, fun _ => ?_⟩
    refine callq rfl (rcentral_ct S hS k2' k3) (by omega) ?_
    rintro _ rfl
    refine callq rfl (ints_ct S hS (xs := digits (cen xs xs.length)) (ys := digits (cen xs xs.length)) (by omega) (by omega)) (by omega) ?_
    rintro _ rfl
    rw [decide_eq_true rfl]
    refine callq rfl (rclass_ct S hS k2' k3 (ckV_bd hb)) (by omega) ?_
    rintro _ rfl
    refine callq rfl (ints_ct S hS (xs := digits (((fac (sm xs).toNat : Nat) : Int) / cen xs xs.length)) (ys := digits (((fac (sm xs).toNat : Nat) : Int) / cen xs xs.length)) (by omega) (by omega)) (by omega) ?_
    rintro _ rfl
    rw [decide_eq_true rfl]
    refine ⟨fun h20 => ?_, fun h20 => ?_⟩
    · have he : e = 8 ∧ zs = [] := by
        rcases hyp with ⟨-, a, b⟩ | ⟨a, -⟩ | ⟨a, -⟩
        · exact ⟨a, b⟩
        · omega
        · omega
      obtain ⟨rfl, rfl⟩ := he
      clear hyp
      refine ⟨fun _ => ?_, fun h => absurd rfl h⟩
      refine ⟨fun _ => ?_, fun h => absurd rfl h⟩
      refine callq rfl hA (by omega) ?_
      rintro _ rfl
      exact endq rfl rfl
    · refine callq rfl (isPerm_ct S hS (xs := ys) (by omega)) (by omega) ?_
      rintro _ rfl
      by_cases hp : chkP ys = 0
      · rw [decide_eq_true hp]
        have he : e = 0 ∧ ∃ f g, ys = PL ys.length f ∧ IsP ys.length f g ∧ zs = dsc (lns (cycs ys.length f)) := by
          rcases hyp with ⟨a, -⟩ | ⟨-, a, -⟩ | ⟨-, -, a, b⟩
          · omega
          · exact absurd hp a
          · exact ⟨a, b⟩
        obtain ⟨rfl, f, g, eP, hP, hz⟩ := he
        clear hyp
        have hr := rcycType_ct S hS hP (by omega)
        rw [← eP, lnz_lns, ← hz] at hr
        refine ⟨fun _ => ?_, fun h => absurd rfl h⟩
        refine callq rfl hr (by omega) ?_
        rintro _ rfl
        refine callq rfl (ints_ct S hS (xs := zs) (ys := zs) (by omega) (by omega)) (by omega) ?_
        rintro _ rfl
        rw [decide_eq_true rfl]
        refine callq rfl hA (by omega) ?_
        rintro _ rfl
        exact endq rfl rfl
      · rw [decide_eq_false hp]
        have he : e = 3 ∧ zs = [] := by
          rcases hyp with ⟨a, -⟩ | ⟨-, -, a, b⟩ | ⟨-, a, -⟩
          · omega
          · exact ⟨a, b⟩
          · exact absurd a hp
        obtain ⟨rfl, rfl⟩ := he
        clear hyp
        refine ⟨fun _ => ?_, fun h => absurd rfl h⟩
        refine ⟨fun _ => ?_, fun h => absurd rfl h⟩
        refine callq rfl hA (by omega) ?_
        rintro _ rfl
        exact endq rfl rfl
  · rw [numV_bad hb]
    refine callq rfl (classSize_ct S hS (by omega)) (by omega) ?_
    rintro _ rfl
    rw [numV_bad hb]
    refine callq rfl (cycType_ct S hS hs (xs := ys) (by omega)) (by omega) ?_
    intro r hr
    have hyp : ∃ (zs : List Int) (e : Int), r = .tup [pIs zs, pn e] ∧ zs.length ≤ 1000 ∧ ((20 < ys.length ∧ e = 8 ∧ zs = []) ∨ (ys.length ≤ 20 ∧ chkP ys ≠ 0 ∧ e = 3 ∧ zs = []) ∨ (ys.length ≤ 20 ∧ chkP ys = 0 ∧ e = 0 ∧ ∃ f g, ys = PL ys.length f ∧ IsP ys.length f g ∧ zs = dsc (lns (cycs ys.length f)))) := by
      rcases hr with ⟨a, rfl⟩ | ⟨a, a2, rfl⟩ | ⟨a, a2, f, g, e, hp, rfl⟩
      · exact ⟨_, _, rfl, by decide, .inl ⟨a, rfl, rfl⟩⟩
      · exact ⟨_, _, rfl, by decide, .inr (.inl ⟨a, a2, rfl, rfl⟩)⟩
      · exact ⟨_, _, rfl, by rw [dsc_len]; have := lns_perm ys.length f; omega, .inr (.inr ⟨a, a2, rfl, f, g, e, hp, rfl⟩)⟩
    clear hr
    obtain ⟨zs, e, rfl, hzl, hyp⟩ := hyp
    refine callq rfl (rck_ct S hS (by omega)) (by omega) ?_
    rintro _ rfl
    refine ⟨fun _ => ?_, fun h => absurd h hb⟩
    refine ⟨fun h => absurd rfl h, fun _ => ?_⟩
    refine ⟨fun h => absurd rfl h, fun _ => ?_⟩
    refine ⟨by unfold In64; decide, ?_⟩
    refine ⟨fun h => absurd rfl h, fun _ => ?_⟩
    refine ⟨fun h20 => ?_, fun h20 => ?_⟩
    · have he : e = 8 ∧ zs = [] := by
        rcases hyp with ⟨-, a, b⟩ | ⟨a, -⟩ | ⟨a, -⟩
        · exact ⟨a, b⟩
        · omega
        · omega
      obtain ⟨rfl, rfl⟩ := he
      clear hyp
      refine ⟨fun _ => ?_, fun h => absurd rfl h⟩
      refine ⟨fun _ => ?_, fun h => absurd rfl h⟩
      refine callq rfl hA (by omega) ?_
      rintro _ rfl
      exact endq rfl rfl
    · refine callq rfl (isPerm_ct S hS (xs := ys) (by omega)) (by omega) ?_
      rintro _ rfl
      by_cases hp : chkP ys = 0
      · rw [decide_eq_true hp]
        have he : e = 0 ∧ ∃ f g, ys = PL ys.length f ∧ IsP ys.length f g ∧ zs = dsc (lns (cycs ys.length f)) := by
          rcases hyp with ⟨a, -⟩ | ⟨-, a, -⟩ | ⟨-, -, a, b⟩
          · omega
          · exact absurd hp a
          · exact ⟨a, b⟩
        obtain ⟨rfl, f, g, eP, hP, hz⟩ := he
        clear hyp
        have hr := rcycType_ct S hS hP (by omega)
        rw [← eP, lnz_lns, ← hz] at hr
        refine ⟨fun _ => ?_, fun h => absurd rfl h⟩
        refine callq rfl hr (by omega) ?_
        rintro _ rfl
        refine callq rfl (ints_ct S hS (xs := zs) (ys := zs) (by omega) (by omega)) (by omega) ?_
        rintro _ rfl
        rw [decide_eq_true rfl]
        refine callq rfl hA (by omega) ?_
        rintro _ rfl
        exact endq rfl rfl
      · rw [decide_eq_false hp]
        have he : e = 3 ∧ zs = [] := by
          rcases hyp with ⟨a, -⟩ | ⟨-, -, a, b⟩ | ⟨-, a, -⟩
          · omega
          · exact ⟨a, b⟩
          · exact absurd a hp
        obtain ⟨rfl, rfl⟩ := he
        clear hyp
        refine ⟨fun _ => ?_, fun h => absurd rfl h⟩
        refine ⟨fun _ => ?_, fun h => absurd rfl h⟩
        refine callq rfl hA (by omega) ?_
        rintro _ rfl
        exact endq rfl rfl
end Go.PI
