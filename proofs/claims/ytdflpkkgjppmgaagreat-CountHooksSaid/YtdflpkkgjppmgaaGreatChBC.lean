/- Own work of the verifier: CvRdiv CvDivi CoOld CoF CoG. -/
import Derived.Test.YtdflpkkgjppmgaaGreatChBB
import Derived.Test.YtdflpkkgjppmgaaGreatChAX
import Derived.Test.YtdflpkkgjppmgaaGreatChAV
import Derived.Test.YtdflpkkgjppmgaaGreatChAU
import Derived.Test.YtdflpkkgjppmgaaGreatChAW
set_option linter.all false
set_option exponentiation.threshold 3000
set_option linter.deprecated false
/- divide, Gcd and DivMod of the reference, with plain values. -/
open Go.Proofs
namespace Go.PI
open IM
set_option maxRecDepth 10000
set_option maxHeartbeats 4000000
variable (S : FuncId → Option (List AV → Heap → Option (AV × Heap)))
theorem rfn120 : ctx.fn 141 = some c141 := by kernel_rfl
theorem rfn38 : ctx.fn 109 = some c109 := by kernel_rfl
theorem app_front {σ0 : List StB} {x : Int} {xs : List Int} {c k : Nat} {K : PV → List StB → Nat → Prop} (hl : xs.length ≤ 1000000) (hk : k < c)
    (hK : ∀ v σ' k', k' ≤ k + 1 → (∃ σ'', Fz v σ' (pIs (x :: xs)) σ'' ∧ ∀ (i : Nat) (b : StB), σ0[i]? = some b → σ''[i]? = some b) → K v σ' k') :
    AppK (ctx.plus S) c k (σ0 ++ [.live 3 [pn x]]) [22, 22] (.own σ0.length 0 1 1 1) (pIs xs) K := by
  have hold : ∀ {b' : StB} {i : Nat} {b : StB}, σ0[i]? = some b → (σ0 ++ [b'])[i]? = some b := fun h => by rw [List.getElem?_append_left (List.getElem?_eq_some_iff.1 h).1]; exact h
  refine ⟨⟨by rw [List.length_map]; show _ = _ * 1; omega, ⟨by show xs.length ≤ 2 ^ 30; omega, pones_pn _⟩, by decide, fun h => ?_, fun h => ?_⟩⟩
  · have h0 : xs = [] := List.eq_nil_of_length_eq_zero (by omega)
    subst h0
    refine ⟨3, [pn x], [pn x], push_get, by simp; exact Nat.le_refl _, rfl, ?_⟩
    rw [push_set]
    refine hK _ _ _ (by omega) ⟨_, fz_own (n := 1) (c := 1) (cs' := [pn x]) push_cont (Nat.le_refl 1) (by decide) rfl, fun i b hb => ?_⟩
    rw [push_set]
    exact hold hb
  · refine ⟨hk, 3, [pn x], pn x :: xs.map pn, push_cont, Nat.le_refl _, rfl, ?_⟩
    refine hK _ _ _ (Nat.le_refl _) ⟨((σ0 ++ [StB.live 3 [pn x]]) ++ [StB.live 3 (pn x :: xs.map pn)]).set (σ0 ++ [StB.live 3 [pn x]]).length (StB.frz 3 (pn x :: xs.map pn)), fun K hK => ⟨3, _, (x :: xs).map pn, push_cont, ⟨by simp; show (1 + xs.length) * 1 ≤ _; omega, fun _ => rfl⟩, ?_, ?_⟩, fun i b hb => ?_⟩
    · rw [List.take_of_length_le (by simp; show _ ≤ (1 + xs.length) * 1; omega)]; rfl
    · have : 1 + xs.length = (x :: xs).length := by simp; omega
      rw [this]
      exact hK
    · rw [push_set]
      rw [List.append_assoc, List.getElem?_append_left (List.getElem?_eq_some_iff.1 hb).1]
      exact hb
theorem rdivide_ct (hR : OldR S) {A B : Int} (hA : 0 ≤ A) (hB : 0 < B) (lA : (digits A).length ≤ 100) (lB : (digits B).length ≤ 18) :
    Ct (ctx.plus S) 141 [pI A, pI B] (800000 * (digits A).length + 100) fun r => r = .tup [pI (A / B), pI (A % B)] := by
  refine ct_of hR.h141 rfn120 ?_
  obtain ⟨xs, hxs⟩ : ∃ xs, digits A = xs := ⟨_, rfl⟩
  have hvx : val xs = A := by rw [← hxs]; exact val_digits A
  have hdx : Dig xs := by rw [← hxs]; exact dig_digits hA
  obtain ⟨n, hn⟩ : ∃ n, xs.length = n := ⟨_, rfl⟩
  have bB := (dig_digits (Int.le_of_lt hB)).val.2
  rw [val_digits] at bB
  have bB18 := pw_mono lB
  rw [hxs, hn] at lA
  rw [show pI A = pIs xs by rw [← hxs]; rfl, hxs, hn]
  refine ⟨by omega, ⟨by omega, by omega, by omega⟩, (List.replicate n (0 : Int)).map pn, (by rw [show ((xs.length : Int)).toNat = n by omega]; exact rep_flat n), ?_⟩
  refine ⟨⟨by omega, by omega⟩, ?_⟩
  refine ⟨fun m s => ∃ (i k : Nat) (R : Int) (Q : List Int) (cz : List PV) (σ : List StB) (T : List PV), s = ⟨T, σ, k⟩ ∧ σ[0]? = some (.live 3 cz) ∧ cz = (List.replicate i (0 : Int) ++ Q).map pn ∧ Gt T 60 [(0, pIs xs), (1, pI B), (6, .own 0 0 n n 1), (7, pI R), (8, pn ((i : Int) - 1))] ∧ m = i ∧ i + Q.length = n ∧ Dig Q ∧ 0 ≤ R ∧ R < B ∧ val (xs.drop i) = B * val Q + R ∧ k ≤ 1 + 800000 * (n - i), ⟨n, ?_⟩, ?_⟩
  · refine ⟨_, frzS_tmp (i := 7) (v := .nils) (by rfl) (by exact rfl), n, _, 0, [], _, _, _, rfl, rfl, by rw [List.append_nil], ⟨rfl, rfl, rfl, ?_, rfl, ?_, trivial⟩, rfl, rfl, (fun x hx => by simp at hx), by omega, hB, by rw [← hn, List.drop_length]; simp [IM.val], by omega⟩
    · rw [← hn]; rfl
    · rw [← hn]; rfl
  rintro m s ⟨i, k, R, Q, cz, σ, T, rfl, h0, hcz, hT, hm, hi, dQ, hR0, hRB, hv, hk⟩
  obtain ⟨J, rfl⟩ := gt_open hT
  clear hT
  refine ⟨fun hge => ?_, fun hlt => ?_⟩
  · obtain ⟨x, hx⟩ : ∃ x, xs[i - 1]? = some x := ⟨xs[i - 1]'(by omega), List.getElem?_eq_getElem _⟩
    obtain ⟨hx0, hx1⟩ := hdx x (List.mem_of_getElem? hx)
    refine ⟨⟨⟨by omega, by omega⟩, len_map_le (by omega)⟩, ?_⟩
    refine ⟨_, ld (at_map hx) (by show _ * 1 = i - 1; omega), ?_⟩
    refine ⟨by omega, part1 fzI ⟨[pn x], rfl, ?_⟩⟩
    have lR : (digits R).length ≤ 18 := Nat.le_trans (digits_len_le hR0 (Int.le_of_lt hRB)) lB
    obtain ⟨R', hR'⟩ : ∃ R', x + 100000000 * R = R' := ⟨_, rfl⟩
    have hR'0 : 0 ≤ R' := by omega
    have hR'B : R' < B * (99999999 + 1) := by omega
    have p19 : pw 19 = 100000000 * pw 18 := pw_succ 18
    have lR' : (digits R').length ≤ 19 := len_of (by omega)
    have e7 : pIs (trimL (x :: digits R)) = pI R' := by
      rw [Dig.trim (xs := x :: digits R) (fun y hy => by
        rcases List.mem_cons.1 hy with rfl | hy
        · exact ⟨hx0, hx1⟩
        · exact dig_digits hR0 y hy)]
      show pIs (digits (x + 100000000 * val (digits R))) = _
      rw [val_digits, hR']
      rfl
    refine app_front S (by omega) (by omega) ?_
    rintro v σ1 k1 hk1 ⟨σ2, hf, hσ⟩
    refine cal1 hf ((rtrim_ct S hR.h125 (by simp; omega)).post fun r h => h.trans e7) (by omega) ?_
    rintro _ rfl
    refine ⟨fun m s => ∃ (lo hi : Int) (k2 : Nat) (σ : List StB) (T : List PV), s = ⟨T, σ, k2⟩ ∧ σ[0]? = some (.live 3 cz) ∧ Gt T 60 [(0, pIs xs), (1, pI B), (6, .own 0 0 n n 1), (7, pI R'), (8, pn ((i : Int) - 1)), (9, pn lo), (10, pn hi)] ∧ 0 ≤ lo ∧ lo ≤ hi ∧ hi ≤ 99999999 ∧ B * lo ≤ R' ∧ R' < B * (hi + 1) ∧ hi - lo < 2 ^ m ∧ m ≤ 27 ∧ k2 ≤ k + 10 + 20010 * (27 - m), ⟨27, ?_⟩, ?_⟩
    · exact ci ⟨0, 99999999, _, _, _, rfl, hσ 0 _ h0, ⟨rfl, rfl, rfl, rfl, rfl, rfl, rfl, rfl, trivial⟩, by omega, by omega, by omega, by omega, hR'B, by decide, by omega, by omega⟩
    · rintro m2 s ⟨lo, hi, k2, σ, T, rfl, hs0, hT, l0, lh, h9, hB1, hB2, hp, hm27, hk2⟩
      obtain ⟨J, rfl⟩ := gt_open hT
      clear hT
      refine ⟨fun hlt => ?_, fun hge => ?_⟩
      · obtain ⟨m3, rfl⟩ : ∃ m3, m2 = m3 + 1 := by
          cases m2 with
          | zero => exfalso; rw [Int.pow_zero] at hp; omega
          | succ m3 => exact ⟨m3, rfl⟩
        have hpw : (2:Int) ^ (m3 + 1) = 2 * 2 ^ m3 := by rw [Int.pow_succ]; omega
        rw [hpw] at hp
        refine ⟨⟨by omega, by omega⟩, ⟨by omega, by omega⟩, ?_⟩
        obtain ⟨mid, hmid⟩ : ∃ mid, (lo + hi + 1).tdiv 2 = mid := ⟨_, rfl⟩
        have hmd : 2 * mid ≤ lo + hi + 1 ∧ lo + hi + 1 < 2 * mid + 2 := by
          rw [← hmid, Int.tdiv_eq_ediv_of_nonneg (by omega)]; omega
        refine ⟨⟨by decide, by rw [hmid]; unfold In64; omega⟩, ?_⟩
        rw [hmid]
        refine ⟨by omega, part1 fzI ⟨[pn mid], rfl, ?_⟩⟩
        have lm : (digits mid).length ≤ 1 := len_of (k := 1) (by have : pw 1 = 100000000 := (by decide); omega)
        have hBm : 0 ≤ B * mid := Int.mul_nonneg (by omega) (by omega)
        have hBm2 : B * mid ≤ B * 100000000 := Int.mul_le_mul_of_nonneg_left (by omega) (by omega)
        have lBm : (digits (B * mid)).length ≤ 19 := len_of (by omega)
        refine cal2 fzL (fz_own (n := 1) (c := 1) (cs' := [pn mid]) push_cont (Nat.le_refl 1) (by decide) rfl) (rmuls_ct S hR (xs := digits B) (ys := [mid]) (X := B) (Y := mid) (Rw.of (by omega)) (Rw.one (by omega)) (by omega) (by simp) (by omega)) (by omega) ?_
        rintro _ rfl
        have hs1 : ∀ {b : StB}, ((σ ++ [b]).set σ.length (StB.frz 3 [pn mid]))[0]? = some (.live 3 cz) := keep0 hs0
        refine callq rfl (less_ct S hR hR'0 hBm (by omega) (by omega)) (by omega) ?_
        rintro _ rfl
        rcases Decidable.em (R' < B * mid) with hd | hd
        · rw [decide_eq_true hd]
          refine ⟨⟨by omega, by omega⟩, ?_⟩
          exact ⟨m3, by omega, ci ⟨lo, mid - 1, _, _, _, rfl, hs1, ⟨rfl, rfl, rfl, rfl, rfl, rfl, rfl, rfl, trivial⟩, l0, by omega, by omega, hB1, by rw [show mid - 1 + 1 = mid by omega]; exact hd, by omega, by omega, by omega⟩⟩
        · rw [decide_eq_false hd]
          exact ⟨m3, by omega, ci ⟨mid, hi, _, _, _, rfl, hs1, ⟨rfl, rfl, rfl, rfl, rfl, rfl, rfl, rfl, trivial⟩, by omega, by omega, h9, by omega, hB2, by omega, by omega, by omega⟩⟩
      · have elo : lo = hi := by omega
        subst elo
        have hi1 : 1 ≤ i := by omega
        have hrep : List.replicate i (0 : Int) = List.replicate (i - 1) 0 ++ [0] := by
          obtain ⟨i', rfl⟩ : ∃ i', i = i' + 1 := ⟨i - 1, by omega⟩
          rw [List.replicate_succ']; rfl
        have hcl : cz.length = n := by rw [hcz]; simp; omega
        refine ⟨⟨by omega, by omega⟩, ?_⟩
        refine ⟨_, _, hs0, ⟨rfl, by rw [hcl]; show 0 + (_ : Int).toNat * 1 + 1 ≤ _; omega, rfl⟩, (List.replicate (i - 1) (0 : Int) ++ lo :: Q).map pn, ?_, _, rfl, ?_⟩
        · rw [hcz, hrep, show 0 + ((i : Int) - 1).toNat * t3.size = i - 1 by show 0 + (_ : Int).toNat * 1 = _; omega]
          have := put_mid (List.replicate (i - 1) 0) Q 0 lo
          rw [List.length_replicate] at this
          exact this
        refine ⟨by omega, part1 fzI ⟨[pn lo], rfl, ?_⟩⟩
        have lm : (digits lo).length ≤ 1 := len_of (k := 1) (by have : pw 1 = 100000000 := (by decide); omega)
        have hBm : 0 ≤ B * lo := Int.mul_nonneg (by omega) (by omega)
        have lBm : (digits (B * lo)).length ≤ 19 := len_of (by omega)
        refine cal2 fzL (fz_own (n := 1) (c := 1) (cs' := [pn lo]) push_cont (Nat.le_refl 1) (by decide) rfl) (rmuls_ct S hR (xs := digits B) (ys := [lo]) (X := B) (Y := lo) (Rw.of (by omega)) (Rw.one (by omega)) (by omega) (by simp) (by omega)) (by omega) ?_
        rintro _ rfl
        refine callq rfl (rsub_ct S hR (X := R') (Y := B * lo) (Rw.of (by omega)) (Rw.of (by omega))) (by omega) ?_
        rintro _ rfl
        refine ⟨⟨by omega, by omega⟩, ?_⟩
        have e1 : (i : Int) - 1 - 1 = ((i - 1 : Nat) : Int) - 1 := by omega
        rw [e1]
        have hmul : B * (lo + 1) = B * lo + B := by rw [Int.mul_add, Int.mul_one]
        refine ⟨i - 1, by omega, ci ⟨i - 1, _, R' - B * lo, lo :: Q, _, _, _, rfl, ?_, rfl, ⟨rfl, rfl, rfl, rfl, rfl, rfl, trivial⟩, rfl, by simp; omega, ?_, by omega, by omega, ?_, by omega⟩⟩
        · exact keep0 (List.getElem?_set_self (List.getElem?_eq_some_iff.1 hs0).1)
        · intro y hy
          rcases List.mem_cons.1 hy with rfl | hy
          · omega
          · exact dQ y hy
        · rw [val_cons_drop hx, show i - 1 + 1 = i by omega, hv]
          show _ = B * (lo + 100000000 * val Q) + (R' - B * lo)
          rw [← hR', Int.mul_add, Int.mul_add]
          have : B * (100000000 * val Q) = 100000000 * (B * val Q) := by grind
          omega
  · have hi0 : i = 0 := by omega
    subst hi0
    rw [List.replicate_zero, List.nil_append] at hcz
    subst hcz
    rw [List.drop_zero, hvx] at hv
    have hQn : Q.length = n := by omega
    subst hQn
    refine cal1 (fz_own (n := Q.length) (c := Q.length) (cs' := Q.map pn) (contOf_live h0) (by simp) (Nat.le_refl _) (by rw [List.take_of_length_le (by simp)])) ((rtrim_ct S hR.h125 (xs := Q) (by omega)).post fun r h => h.trans (show pIs (trimL Q) = pI (A / B) by
      have hq : val Q = A / B := by
        rw [hv]
        have h1 := Int.mul_add_ediv_left (val Q) R (show B ≠ 0 by omega)
        rw [h1, Int.ediv_eq_zero_of_lt hR0 hRB, Int.add_zero]
      rw [dQ.trim, hq]; rfl)) (by omega) ?_
    rintro _ rfl
    refine endsq rfl ?_
    have hr : A % B = R := by
      rw [hv]
      have h1 := Int.mul_add_emod_self_left B (val Q) R
      rw [h1, Int.emod_eq_of_lt hR0 hRB]
    rw [hr]
    rfl
theorem rdivmod_ct (hR : OldR S) {xs ys : List Int} {X Y : Int} (hx : Rw xs X) (hy : Rw ys Y) (lX : (digits X).length ≤ 18) (lY : (digits Y).length ≤ 18) (hY : Y ≠ 0) :
    Ct (ctx.plus S) 109 [pIs xs, pIs ys] 20000000 fun r => r = .tup [pI (X / Y), pI (X % Y), pn 0] := by
  refine ct_of hR.h109 rfn38 ?_
  have D := Hid.mk (div_signs (X := X) hY)
  obtain ⟨A, hA⟩ : ∃ A : Int, (X.natAbs : Int) = A := ⟨_, rfl⟩
  obtain ⟨B, hB⟩ : ∃ B : Int, (Y.natAbs : Int) = B := ⟨_, rfl⟩
  have hA0 : 0 ≤ A := by omega
  have hB0 : 0 < B := by omega
  have lA : (digits A).length ≤ 18 := by rw [← hA]; exact Nat.le_trans (Nat.le_of_eq (by have := abs_len (nrm_digits X); rwa [val_digits] at this)) lX
  have lB : (digits B).length ≤ 18 := by rw [← hB]; exact Nat.le_trans (Nat.le_of_eq (by have := abs_len (nrm_digits Y); rwa [val_digits] at this)) lY
  refine callq rfl (rnorm_ct S hR hx) (by omega) ?_
  rintro _ rfl
  refine callq rfl (rnorm_ct S hR hy) (by omega) ?_
  rintro _ rfl
  refine ⟨fun h => absurd (digits_nil.1 (List.eq_nil_of_length_eq_zero (by omega))) hY, fun _ => ?_⟩
  refine callq rfl (rsize_ct S hR (X := X) (by omega)) (by omega) ?_
  rintro _ rfl
  refine callq rfl (rsize_ct S hR (X := Y) (by omega)) (by omega) ?_
  rintro _ rfl
  rw [hA, hB] at D ⊢
  refine callq rfl (rdivide_ct S hR hA0 hB0 (by omega) lB) (by omega) ?_
  rintro _ rfl
  obtain ⟨Q, hQ⟩ : ∃ Q, A / B = Q := ⟨_, rfl⟩
  obtain ⟨W, hW⟩ : ∃ W, A % B = W := ⟨_, rfl⟩
  rw [hQ, hW] at D ⊢
  have hW0 : 0 ≤ W := by rw [← hW]; exact Int.emod_nonneg _ (by omega)
  have hWl : W < B := by rw [← hW]; exact Int.emod_lt_of_pos _ hB0
  have hQ0 : 0 ≤ Q := by rw [← hQ]; exact Int.ediv_nonneg hA0 (by omega)
  have hQl : Q ≤ A := by rw [← hQ]; exact Int.ediv_le_self _ hA0
  have bA := (dig_digits hA0).val.2
  have bB := (dig_digits (Int.le_of_lt hB0)).val.2
  rw [val_digits] at bA bB
  have p1 := pw_mono lA
  have p2 := pw_mono lB
  have p3 : pw 19 = 100000000 * pw 18 := pw_succ 18
  have p4 := pw_pos 18
  have lq : ∀ q : Int, -pw 19 < q → q < pw 19 → (digits q).length ≤ 19 := fun q h1 h2 => len_of ⟨h1, h2⟩
  have lQ := lq Q (by omega) (by omega)
  have lQ' := lq (-Q) (by omega) (by omega)
  have lQ1 := lq (-Q - 1) (by omega) (by omega)
  have lW := lq W (by omega) (by omega)
  have lW' := lq (-W) (by omega) (by omega)
  refine callq rfl (rngv_ct S hR.h143 (X := X) (by omega)) (by omega) ?_
  rintro _ rfl
  have fin : ∀ {σ : List StB} {q w : Int}, (q = X / Y) → (w = X % Y) → EndsK σ [pI q, pI w, pn 0] fun r => r = .tup [pI (X / Y), pI (X % Y), pn 0] := fun h1 h2 => endsq rfl (by rw [h1, h2])
  rcases Decidable.em (X < 0) with hX | hX
  · rw [decide_eq_true hX]
    refine callq rfl (rneg_ct S hR (X := Q) (Rw.of (by omega))) (by omega) ?_
    rintro _ rfl
    refine callq rfl (rneg_ct S hR (X := W) (Rw.of (by omega))) (by omega) ?_
    rintro _ rfl
    refine ⟨fun hw => ?_, fun hw => ?_⟩
    · have hW1 : W ≠ 0 := fun h => by rw [h] at hw; exact absurd hw (by decide)
      refine ⟨by omega, part1 fzI ⟨[pn 1], rfl, ?_⟩⟩
      refine cal2 fzL (fz_own (n := 1) (c := 1) (cs' := [pn 1]) rfl (Nat.le_refl 1) (by decide) rfl) (rsub_ct S hR (X := -Q) (Y := 1) (Rw.of (by omega)) (Rw.one (by omega))) (by omega) ?_
      rintro _ rfl
      refine callq rfl (rsize_ct S hR (X := Y) (by omega)) (by omega) ?_
      rintro _ rfl
      rw [hB]
      refine callq rfl (radd_ct S hR (X := -W) (Y := B) (Rw.of (by omega)) (Rw.of (by omega))) (by omega) ?_
      rintro _ rfl
      refine callq rfl (rngv_ct S hR.h143 (X := Y) (by omega)) (by omega) ?_
      rintro _ rfl
      rcases Decidable.em (Y < 0) with hY' | hY'
      · rw [decide_eq_true hY']
        refine callq rfl (rneg_ct S hR (X := -Q - 1) (Rw.of (by omega))) (by omega) ?_
        rintro _ rfl
        refine fin ?_ ?_
        · have d9 := D.h.2.2.2.2.2.2.2.2 hX hY' hW1; omega
        · have d3 := D.h.2.2.1 hX hW1; omega
      · rw [decide_eq_false hY']
        refine fin ?_ ?_
        · have d8 := D.h.2.2.2.2.2.2.2.1 hX (by omega) hW1; omega
        · have d3 := D.h.2.2.1 hX hW1; omega
    · have hW1 : W = 0 := by
        have := digits_nil.1 (List.eq_nil_of_length_eq_zero (show (digits (-W)).length = 0 by omega))
        omega
      refine callq rfl (rngv_ct S hR.h143 (X := Y) (by omega)) (by omega) ?_
      rintro _ rfl
      rcases Decidable.em (Y < 0) with hY' | hY'
      · rw [decide_eq_true hY']
        refine callq rfl (rneg_ct S hR (X := -Q) (Rw.of (by omega))) (by omega) ?_
        rintro _ rfl
        refine fin ?_ ?_
        · have d7 := D.h.2.2.2.2.2.2.1 hX hY' hW1; omega
        · have d2 := D.h.2.1 hX hW1; omega
      · rw [decide_eq_false hY']
        refine fin ?_ ?_
        · rw [D.h.2.2.2.2.2.1 hX (by omega) hW1]
        · have d2 := D.h.2.1 hX hW1; omega
  · rw [decide_eq_false hX]
    refine callq rfl (rngv_ct S hR.h143 (X := Y) (by omega)) (by omega) ?_
    rintro _ rfl
    rcases Decidable.em (Y < 0) with hY' | hY'
    · rw [decide_eq_true hY']
      refine callq rfl (rneg_ct S hR (X := Q) (Rw.of (by omega))) (by omega) ?_
      rintro _ rfl
      exact fin (by rw [D.h.2.2.2.2.1 (by omega) hY']) (by rw [D.h.1 (by omega)])
    · rw [decide_eq_false hY']
      exact fin (by rw [D.h.2.2.2.1 (by omega) (by omega)]) (by rw [D.h.1 (by omega)])
end Go.PI
/- divide, and what is divided by a common divisor. -/
open Go.Proofs
namespace Go.PI
open IM
set_option maxRecDepth 10000
set_option maxHeartbeats 4000000
variable (S : FuncId → Option (List AV → Heap → Option (AV × Heap)))
end Go.PI
/- What is asked of a table of summaries. -/
namespace Go.PI
def OldO (S : FuncId → Option (List AV → Heap → Option (AV × Heap))) : Prop := ∀ f, ¬ (f = 12 ∨ f = 112) → S f = none
end Go.PI
/- SMALL FUNCTIONS of package count and of its reference: within, sums of divisors, squares of primes. -/
open Go.Proofs
namespace Go.PI
open IM
set_option maxRecDepth 20000
set_option maxHeartbeats 4000000
variable (S : FuncId → Option (List AV → Heap → Option (AV × Heap)))
theorem old_of (hS : OldO S) : Old S := by constructor <;> exact hS _ (by decide)
theorem oldR_of (hS : OldO S) : OldR S := by constructor <;> exact hS _ (by decide)
theorem fn57 : ctx.fn 57 = some c57 := by kernel_rfl
theorem fn21 : ctx.fn 21 = some c21 := by kernel_rfl
theorem within_ct (hS : OldO S) {n a b : Int} : Ct (ctx.plus S) 57 [pn n, pn a, pn b] 0 fun r => r = .bool (decide (a ≤ n ∧ n ≤ b)) := by
  refine ct_of (hS 57 (by decide)) fn57 ?_
  refine ⟨fun h1 => ?_, fun h1 => ?_⟩
  · refine ⟨fun h2 => ?_, fun h2 => ?_⟩
    · exact endq rfl (by rw [decide_eq_true ⟨by omega, by omega⟩])
    · exact endq rfl (by rw [decide_eq_false (by omega)])
  · exact endq rfl (by rw [decide_eq_false (by omega)])
theorem rwithin_ct (hS : OldO S) {n a b : Int} : Ct (ctx.plus S) 21 [pn n, pn a, pn b] 0 fun r => r = .bool (decide (a ≤ n ∧ n ≤ b)) := by
  refine ct_of (hS 21 (by decide)) fn21 ?_
  refine ⟨fun h1 => ?_, fun h1 => ?_⟩
  · refine ⟨fun h2 => ?_, fun h2 => ?_⟩
    · exact endq rfl (by rw [decide_eq_true ⟨by omega, by omega⟩])
    · exact endq rfl (by rw [decide_eq_false (by omega)])
  · exact endq rfl (by rw [decide_eq_false (by omega)])
end Go.PI
/- LISTS COMPARED; integers in lowest terms. -/
open Go.Proofs
namespace Go.PI
open IM
set_option maxRecDepth 20000
set_option maxHeartbeats 4000000
variable (S : FuncId → Option (List AV → Heap → Option (AV × Heap)))
def pM (M : List (List Int)) : PV := .lst M.length (M.map pIs)
theorem xs_get {xs : List Int} {i : Nat} (h : i < xs.length) : ∃ e, xs[i]? = some e := ⟨xs[i], List.getElem?_eq_getElem _⟩
theorem fn19 : ctx.fn 19 = some c19 := by kernel_rfl
def Eqs (xs ys : List Int) (i : Nat) : Prop := xs.take i = ys.take i
theorem eqs_next {xs ys : List Int} {i : Nat} {a b : Int} (h : Eqs xs ys i) (hx : xs[i]? = some a) (hy : ys[i]? = some b) (he : a = b) : Eqs xs ys (i + 1) := by
  unfold Eqs at *
  rw [take_snoc hx, take_snoc hy, h, he]
theorem ints_ct (hS : OldO S) {xs ys : List Int} (hx : xs.length ≤ 1000000) (hy : ys.length ≤ 1000000) : Ct (ctx.plus S) 19 [pIs xs, pIs ys] 0 fun r => r = .bool (decide (xs = ys)) := by
  refine ct_of (hS 19 (by decide)) fn19 ?_
  refine ⟨fun hne => ?_, fun heq => ?_⟩
  · exact endq rfl (by rw [decide_eq_false (fun h => hne (by rw [h]))])
  have hle : xs.length = ys.length := by omega
  refine ⟨fun m s => ∃ (i : Nat) (T : List PV), s = ⟨T, [], 0⟩ ∧ Gt T 26 [(0, pIs xs), (1, pIs ys), (5, pn i)] ∧ m = xs.length - i ∧ i ≤ xs.length ∧ Hid (Eqs xs ys i), ⟨_, ci ⟨0, _, rfl, ⟨rfl, rfl, rfl, rfl, trivial⟩, rfl, Nat.zero_le _, ⟨rfl⟩⟩⟩, ?_⟩
  rintro _ s ⟨i, T, rfl, hT, rfl, hi, hn⟩
  obtain ⟨J, rfl⟩ := gt_open hT
  clear hT
  refine ⟨fun hlt => ?_, fun hge => ?_⟩
  · obtain ⟨a, ha⟩ := xs_get (xs := xs) (i := i) (by omega)
    obtain ⟨b, hb⟩ := xs_get (xs := ys) (i := i) (by omega)
    refine ⟨by kernel_rfl, ?_⟩
    refine ⟨⟨⟨by omega, by omega⟩, len_map_le (by omega)⟩, ?_⟩
    refine ⟨_, ld (at_map ha) (by show _ * 1 = i; omega), rfl, ?_⟩
    refine ⟨⟨⟨by omega, by omega⟩, len_map_le (by omega)⟩, ?_⟩
    refine ⟨_, ld (at_map hb) (by show _ * 1 = i; omega), rfl, ?_⟩
    refine ⟨fun hne => ?_, fun heq => ?_⟩
    · exact endq rfl (by rw [decide_eq_false (fun h => by rw [h, hb] at ha; cases ha; exact hne rfl)])
    · refine ⟨⟨by omega, by omega⟩, ?_⟩
      exact ⟨_, by omega, ci ⟨i + 1, _, rfl, ⟨rfl, rfl, rfl, rfl, trivial⟩, rfl, by omega, ⟨eqs_next hn.h ha hb (by omega)⟩⟩⟩
  · exact endq rfl (by rw [decide_eq_true (by have := hn.h; unfold Eqs at this; rwa [List.take_of_length_le (by omega), List.take_of_length_le (by omega)] at this)])
theorem fn17 : ctx.fn 17 = some c17 := by kernel_rfl
theorem eqs_nextM {xs ys : List (List Int)} {i : Nat} {a b : List Int} (h : xs.take i = ys.take i) (hx : xs[i]? = some a) (hy : ys[i]? = some b) (he : a = b) : xs.take (i + 1) = ys.take (i + 1) := by
  rw [List.take_add_one, List.take_add_one, hx, hy, h, he]
theorem xs_getM {xs : List (List Int)} {i : Nat} (h : i < xs.length) : ∃ e, xs[i]? = some e := ⟨xs[i], List.getElem?_eq_getElem _⟩
theorem lists_ct (hS : OldO S) {X Y : List (List Int)} (hx : X.length ≤ 1000000) (hy : Y.length ≤ 1000000) (ax : ∀ x ∈ X, x.length ≤ 1000000) (ay : ∀ x ∈ Y, x.length ≤ 1000000) :
    Ct (ctx.plus S) 17 [pM X, pM Y] 0 fun r => r = .bool (decide (X = Y)) := by
  refine ct_of (hS 17 (by decide)) fn17 ?_
  refine ⟨fun hne => ?_, fun heq => ?_⟩
  · exact endq rfl (by rw [decide_eq_false (fun h => hne (by rw [h]))])
  have hle : X.length = Y.length := by omega
  refine ⟨fun m s => ∃ (i : Nat) (T : List PV), s = ⟨T, [], 0⟩ ∧ Gt T 27 [(0, pM X), (1, pM Y), (5, pn i)] ∧ m = X.length - i ∧ i ≤ X.length ∧ Hid (X.take i = Y.take i), ⟨_, ci ⟨0, _, rfl, ⟨rfl, rfl, rfl, rfl, trivial⟩, rfl, Nat.zero_le _, ⟨rfl⟩⟩⟩, ?_⟩
  rintro _ s ⟨i, T, rfl, hT, rfl, hi, hn⟩
  obtain ⟨J, rfl⟩ := gt_open hT
  clear hT
  refine ⟨fun hlt => ?_, fun hge => ?_⟩
  · obtain ⟨a, ha⟩ := xs_getM (xs := X) (i := i) (by omega)
    obtain ⟨b, hb⟩ := xs_getM (xs := Y) (i := i) (by omega)
    refine ⟨by kernel_rfl, ?_⟩
    refine ⟨⟨⟨by omega, by omega⟩, len_map_le (by omega)⟩, ?_⟩
    refine ⟨_, ld (at_map ha) (by show _ * 1 = i; omega), rfl, ?_⟩
    refine ⟨⟨⟨by omega, by omega⟩, len_map_le (by omega)⟩, ?_⟩
    refine ⟨_, ld (at_map hb) (by show _ * 1 = i; omega), rfl, ?_⟩
    refine callq rfl (ints_ct S hS (ax _ (List.mem_of_getElem? ha)) (ay _ (List.mem_of_getElem? hb))) (by omega) ?_
    rintro _ rfl
    by_cases hab : a = b
    · rw [decide_eq_true hab]
      refine ⟨⟨by omega, by omega⟩, ?_⟩
      exact ⟨_, by omega, ci ⟨i + 1, _, rfl, ⟨rfl, rfl, rfl, rfl, trivial⟩, rfl, by omega, ⟨eqs_nextM hn.h ha hb hab⟩⟩⟩
    · rw [decide_eq_false hab]
      exact endq rfl (by rw [decide_eq_false (fun h => by rw [h, hb] at ha; cases ha; exact hab rfl)])
  · exact endq rfl (by rw [decide_eq_true (by have := hn.h; rwa [List.take_of_length_le (by omega), List.take_of_length_le (by omega)] at this)])
end Go.PI
