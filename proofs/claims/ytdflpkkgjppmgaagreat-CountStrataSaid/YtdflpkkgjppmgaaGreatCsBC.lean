/- Own work of the verifier: CpC. -/
import Derived.Test.YtdflpkkgjppmgaaGreatCsBB
set_option linter.all false
set_option exponentiation.threshold 3000
set_option linter.deprecated false
/- THE LAW OF STRATA. -/
open Go.Proofs
namespace Go.PI
open IM
set_option maxRecDepth 20000
set_option maxHeartbeats 4000000
variable (S : FuncId → Option (List AV → Heap → Option (AV × Heap)))
theorem fn11 : ctx.fn 11 = some c11 := by kernel_rfl
theorem fn43 : ctx.fn 43 = some c43 := by kernel_rfl
theorem fn9 : ctx.fn 9 = some c9 := by kernel_rfl
theorem long_ct (hS : OldO S) {xs : List Int} : Ct (ctx.plus S) 11 [pIs xs] 0 fun r => r = .bool (decide (40 < xs.length)) := by
  refine ct_of (hS 11 (by decide)) fn11 ?_
  refine ⟨fun h => ?_, fun h => ?_⟩
  · exact endq rfl (by rw [decide_eq_true (by omega)])
  · exact endq rfl (by rw [decide_eq_false (by omega)])
theorem ckL_sorted {xs : List Int} : ∀ {prev : Int}, ckL prev xs = 0 → (∀ x ∈ xs, x ≤ prev) ∧ xs.Pairwise fun a b => b ≤ a := by
  induction xs with
  | nil => intro _ _; exact ⟨fun x hx => (by cases hx), .nil⟩
  | cons y ys ih =>
    intro prev h
    unfold ckL at h
    split at h
    · split at h
      · cases h
      · rename_i h1 h2
        obtain ⟨h3, h4⟩ := ih h
        refine ⟨fun x hx => ?_, List.pairwise_cons.2 ⟨h3, h4⟩⟩
        rcases List.mem_cons.1 hx with rfl | hx
        · omega
        · have := h3 x hx; omega
    · cases h
theorem sm_dec1 (xs : List Int) : sm (dec1 xs) = sm xs - xs.length := by
  induction xs with
  | nil => rfl
  | cons x xs ih =>
    show x - 1 + sm (dec1 xs) = x + sm xs - ((xs.length + 1 : Nat) : Int)
    rw [ih]; omega
theorem inc1_dec1 (xs : List Int) : inc1 (dec1 xs) = xs := by
  induction xs with
  | nil => rfl
  | cons x xs ih =>
    show (x - 1 + 1) :: inc1 (dec1 xs) = _
    rw [ih]
    congr 1
    omega
theorem dec1_len (xs : List Int) : (dec1 xs).length = xs.length := by unfold dec1; simp
theorem stV_form (n : Int) (xs : List Int) (hl : xs.length ≤ 40) : ∃ (zs : List Int) (e : Int), stV n xs = .tup [pIs zs, pn e] ∧ zs.length ≤ 1000 := by
  by_cases hn : 1 ≤ n ∧ n ≤ 20
  · by_cases hO : OkO xs
    · by_cases hb : n < sm xs + (xs.length : Int)
      · exact ⟨[], 10, stV_big hn hO hb, by decide⟩
      · by_cases he : (sm xs).tmod 2 = 0
        · refine ⟨_, _, stV_ok hn hO (by omega) he, ?_⟩
          have hb0 := sm_bd (xs := xs) fun x hx => by have := hO x hx; omega
          rw [dsc_len]
          unfold tyL
          rw [List.length_append, inc1_len, List.length_replicate]
          omega
        · exact ⟨[], 3, stV_odd hn hO (by omega) he, by decide⟩
    · exact ⟨[], 2, stV_el hn hO, by decide⟩
  · exact ⟨[], 2, stV_n hn, by decide⟩
theorem orders_ct (hS : OldO S) {xs : List Int} (hl : xs.length ≤ 1000000) : Ct (ctx.plus S) 43 [pIs xs] 3000 fun r => r = if ckV xs = 0 then .tup [pIs (dec1 xs), pn 0] else .tup [.lst 0 [], pn (ckV xs)] := by
  refine ct_of (hS 43 (by decide)) fn43 ?_
  by_cases hb : ckV xs = 0
  · rw [if_pos hb]
    refine callq rfl (answerI_ct S hS hl hb rfl (ordersOf_ct S hS (ckV_bd hb))) (by omega) ?_
    rintro _ rfl
    exact endsq rfl rfl
  · rw [if_neg hb]
    refine callq rfl (answerI_bad S hS hl hb) (by omega) ?_
    rintro _ rfl
    exact endsq rfl rfl
theorem strataLaw_ct (hS : OldO S) (hs : S 112 = some sSort) {dA : Nat} (hA : Ct (ctx.plus S) 12 [] dA fun r => r = .bool true) {n : Int} {xs ys : List Int} : Ct (ctx.plus S) 9 [pn n, pIs xs, pIs ys] (100000 + dA) fun r => r = .bool true := by
  refine ct_of (hS 9 (by decide)) fn9 ?_
  refine callq rfl (long_ct S hS) (by omega) ?_
  rintro _ rfl
  by_cases hlx : 40 < xs.length
  · rw [decide_eq_true hlx]
    refine callq rfl hA (by omega) ?_
    rintro _ rfl
    exact endq rfl rfl
  rw [decide_eq_false hlx]
  refine callq rfl (long_ct S hS) (by omega) ?_
  rintro _ rfl
  by_cases hly : 40 < ys.length
  · rw [decide_eq_true hly]
    refine callq rfl hA (by omega) ?_
    rintro _ rfl
    exact endq rfl rfl
  rw [decide_eq_false hly]
  obtain ⟨zs, e, hst, hzl⟩ := stV_form n xs (by omega)
  refine callq rfl (stratum_ct S hS hs (by omega)) (by omega) ?_
  rintro _ rfl
  rw [hst]
  refine callq rfl (rstratum_ct S hS (by omega)) (by omega) ?_
  rintro _ rfl
  rw [hst]
  refine callq rfl (orders_ct S hS (by omega)) (by omega) ?_
  rintro _ rfl
  by_cases hb : ckV ys = 0
  · obtain ⟨k1, k2, k3, k4⟩ := ckV_ok hb
    rw [if_pos hb]
    refine callq rfl (genus_ct S hS (by omega)) (by omega) ?_
    rintro _ rfl
    rw [if_pos hb]
    refine callq rfl (ints_ct S hS (xs := zs) (ys := zs) (by omega) (by omega)) (by omega) ?_
    rintro _ rfl
    rw [decide_eq_true rfl]
    refine ⟨fun h => absurd rfl h, fun _ => ?_⟩
    refine callq rfl (rck_ct S hS (by omega)) (by omega) ?_
    rintro _ rfl
    rw [hb]
    refine ⟨fun h => absurd rfl h, fun _ => ?_⟩
    refine callq rfl (rgenus_ct S hS hb) (by omega) ?_
    rintro _ rfl
    refine ⟨fun h => absurd rfl h, fun _ => ?_⟩
    refine callq rfl (rorders_ct S hS (ckV_bd hb)) (by omega) ?_
    rintro _ rfl
    refine callq rfl (ints_ct S hS (xs := dec1 ys) (ys := dec1 ys) (by rw [dec1_len]; omega) (by rw [dec1_len]; omega)) (by omega) ?_
    rintro _ rfl
    rw [decide_eq_true rfl]
    refine ⟨fun h => absurd rfl h, fun _ => ?_⟩
    refine ⟨fun h => absurd rfl h, fun _ => ?_⟩
    refine callq rfl (rsize'_ct S hS (ckV_bd hb)) (by omega) ?_
    rintro _ rfl
    refine callq rfl (stratum_ct S hS hs (xs := dec1 ys) (by rw [dec1_len]; omega)) (by omega) ?_
    rintro _ rfl
    have hge := sm_ge fun x hx => (k2 x hx).1
    have hO : OkO (dec1 ys) := fun x hx => by
      unfold dec1 at hx
      obtain ⟨y, hy, rfl⟩ := List.mem_map.1 hx
      have := k2 y hy
      omega
    have hfit : sm (dec1 ys) + ((dec1 ys).length : Int) ≤ sm ys := by rw [sm_dec1, dec1_len]; omega
    by_cases h0 : sm ys = 0
    · rw [stV_n (by omega)]
      refine callq rfl (rsize'_ct S hS (ckV_bd hb)) (by omega) ?_
      rintro _ rfl
      refine ⟨fun _ => ?_, fun h => absurd h0 h⟩
      refine ⟨fun _ => ?_, fun h => absurd rfl h⟩
      refine callq rfl hA (by omega) ?_
      rintro _ rfl
      exact endq rfl rfl
    have hn : 1 ≤ sm ys ∧ sm ys ≤ 20 := by omega
    by_cases he : (sm ys - (ys.length : Int)).tmod 2 = 0
    · have hg2 : (genV ys).2 = 0 := by unfold genV; rw [if_pos he]
      have hty : dsc (tyL (sm ys) (dec1 ys)) = ys := by
        have : tyL (sm ys) (dec1 ys) = ys := by
          unfold tyL
          rw [inc1_dec1, sm_dec1, dec1_len, show (sm ys - (sm ys - (ys.length : Int)) - (ys.length : Int)).toNat = 0 by omega]
          simp
        rw [this]
        exact dsc_self (ckL_sorted k4).2
      rw [stV_ok hn hO hfit (by rw [sm_dec1]; exact he), hty, hg2]
      refine callq rfl (rsize'_ct S hS (ckV_bd hb)) (by omega) ?_
      rintro _ rfl
      refine ⟨fun h => absurd h h0, fun _ => ?_⟩
      refine ⟨fun h => absurd rfl h, fun _ => ?_⟩
      refine ⟨fun _ => ?_, fun h => absurd rfl h⟩
      refine ⟨fun _ => ?_, fun h => absurd rfl h⟩
      refine callq rfl (ints_ct S hS (xs := ys) (ys := ys) (by omega) (by omega)) (by omega) ?_
      rintro _ rfl
      rw [decide_eq_true rfl]
      refine callq rfl hA (by omega) ?_
      rintro _ rfl
      exact endq rfl rfl
    · have hg2 : (genV ys).2 = 3 := by unfold genV; rw [if_neg he]
      rw [stV_odd hn hO hfit (by rw [sm_dec1]; exact he), hg2]
      refine callq rfl (rsize'_ct S hS (ckV_bd hb)) (by omega) ?_
      rintro _ rfl
      refine ⟨fun h => absurd h h0, fun _ => ?_⟩
      refine ⟨fun _ => ?_, fun h => absurd h (by decide)⟩
      refine ⟨fun _ => ?_, fun h => absurd rfl h⟩
      refine callq rfl hA (by omega) ?_
      rintro _ rfl
      exact endq rfl rfl
  · rw [if_neg hb]
    refine callq rfl (genus_ct S hS (by omega)) (by omega) ?_
    rintro _ rfl
    rw [if_neg hb]
    refine callq rfl (ints_ct S hS (xs := zs) (ys := zs) (by omega) (by omega)) (by omega) ?_
    rintro _ rfl
    rw [decide_eq_true rfl]
    refine ⟨fun h => absurd rfl h, fun _ => ?_⟩
    refine callq rfl (rck_ct S hS (by omega)) (by omega) ?_
    rintro _ rfl
    refine ⟨fun _ => ?_, fun h => absurd h hb⟩
    refine ⟨fun _ => ?_, fun h => absurd rfl h⟩
    refine ⟨fun _ => ?_, fun h => absurd rfl h⟩
    refine ⟨fun _ => ?_, fun h => absurd rfl h⟩
    refine ⟨fun _ => ?_, fun h => absurd rfl h⟩
    refine callq rfl hA (by omega) ?_
    rintro _ rfl
    exact endq rfl rfl
end Go.PI
