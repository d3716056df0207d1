/- Own work of the verifier: CrN CrS CyC CyD CyE CySq CqD CqE CqF CrT. -/
import Derived.Test.YtdflpkkgjppmgaaGreatChBH
import Derived.Test.YtdflpkkgjppmgaaGreatChBI
import Derived.Test.YtdflpkkgjppmgaaGreatChBF
set_option linter.all false
set_option exponentiation.threshold 3000
set_option linter.deprecated false
/- HOOKS AND DIMENSION, as they are asked for. -/
open Go.Proofs
namespace Go.PI
open IM
set_option maxRecDepth 20000
set_option maxHeartbeats 1000000
variable (S : FuncId → Option (List AV → Heap → Option (AV × Heap)))
theorem fn52 : ctx.fn 52 = some c52 := by kernel_rfl
theorem fn13 : ctx.fn 13 = some c13 := by kernel_rfl
theorem fn14 : ctx.fn 14 = some c14 := by kernel_rfl
theorem ckV_dsc {xs : List Int} (h : ckV xs = 0) : Dsc xs ∧ xs.Pairwise fun a b => b ≤ a := by
  obtain ⟨k1, k2, k3, k4⟩ := ckV_ok h
  have hP := (ckL_sorted k4).2
  refine ⟨fun x hx => ⟨(k2 x hx).1, ?_⟩, hP⟩
  cases xs with
  | nil => cases hx
  | cons y ys =>
    have hy := k2 y List.mem_cons_self
    have : x ≤ y := by
      rcases List.mem_cons.1 hx with rfl | hx
      · exact Int.le_refl _
      · exact (List.pairwise_cons.1 hP).1 x hx
    show x ≤ ((y.toNat : Nat) : Int)
    omega
theorem hooksA_ct (hS : OldO S) {xs : List Int} (hl : xs.length ≤ 1000000) : Ct (ctx.plus S) 13 [pIs xs] 1000 fun r => r = if ckV xs = 0 then .tup [pM (hks xs xs.length), pn 0] else .tup [.lst 0 [], pn (ckV xs)] := by
  refine ct_of (hS 13 (by decide)) fn13 ?_
  by_cases hb : ckV xs = 0
  · rw [if_pos hb]
    obtain ⟨hD, hP⟩ := ckV_dsc hb
    obtain ⟨k1, k2, k3, k4⟩ := ckV_ok hb
    have hA : Ct (ctx.plus S) 52 [pIs xs, pn 20, .fn 53] 1000 fun r => r = .tup [pM (hks xs xs.length), pn 0] := by
      refine ct_of (hS 52 (by decide)) fn52 ?_
      refine callq rfl (ck_ct S hS hl) (by omega) ?_
      rintro _ rfl
      rw [hb]
      refine ⟨fun _ => ?_, fun h => absurd rfl h⟩
      refine callq rfl (size'_ct S hS (ckV_bd hb)) (by omega) ?_
      rintro _ rfl
      refine ⟨fun h => by omega, fun _ => ?_⟩
      refine ⟨fun h => absurd rfl h, fun _ => ?_⟩
      refine callq rfl (hooks_ct S hS (ckV_bd hb) (by omega) hD) (by omega) ?_
      rintro _ rfl
      exact endsq rfl rfl
    refine callq rfl hA (by omega) ?_
    rintro _ rfl
    exact endsq rfl rfl
  · rw [if_neg hb]
    have hA : Ct (ctx.plus S) 52 [pIs xs, pn 20, .fn 53] 0 fun r => r = .tup [.lst 0 [], pn (ckV xs)] := by
      refine ct_of (hS 52 (by decide)) fn52 ?_
      refine callq rfl (ck_ct S hS hl) (by omega) ?_
      rintro _ rfl
      refine ⟨fun h => absurd h hb, fun _ => ?_⟩
      refine ⟨fun _ => ?_, fun h => absurd h hb⟩
      exact ⟨⟨[], rfl⟩⟩
    refine callq rfl hA (by omega) ?_
    rintro _ rfl
    exact endsq rfl rfl
theorem number2_ct (hS : OldO S) {xs : List Int} {g d : Nat} {v : Int} (hl : xs.length ≤ 1000000) (hg : ckV xs = 0 → Ct (ctx.plus S) g [pIs xs] d fun r => r = pn v) (hv : ckV xs = 0 → In64 v) (hd : d ≤ 2000) : Ct (ctx.plus S) 54 [pIs xs, .fn g] 3000 fun r => r = numV xs v := by
  refine ct_of (hS 54 (by decide)) fn54 ?_
  refine ⟨by omega, ?_⟩
  by_cases hb : ckV xs = 0
  · unfold numV
    rw [if_pos hb]
    refine cal3 fzL fzI (fz_fnc1 rfl) (answerC_ct S hS (d := d + 12) rfl hl hb rfl (num1_ct S hS (hg hb) (hv hb))) (by omega) ?_
    rintro _ rfl
    exact endsq rfl rfl
  · unfold numV
    rw [if_neg hb]
    refine cal3 fzL fzI (fz_fnc1 rfl) (answerC_bad S hS hl hb) (by omega) ?_
    rintro _ rfl
    exact endsq rfl rfl
theorem dimA_ct (hS : OldO S) {xs : List Int} (hl : xs.length ≤ 1000000) : Ct (ctx.plus S) 14 [pIs xs] 3000 fun r => r = numV xs ((fac (sm xs).toNat : Nat) / hpr xs) := by
  refine ct_of (hS 14 (by decide)) fn14 ?_
  refine callq rfl (number2_ct S hS (v := (fac (sm xs).toNat : Nat) / hpr xs) hl (d := 1000) (fun hb => dim_ct S hS (ckV_bd hb) (by have := (ckV_ok hb).1; omega) (ckV_dsc hb).1 (ckV_dsc hb).2 (ckV_ok hb).2.2.1) (fun hb => ?_) (by omega)) (by omega) ?_
  · obtain ⟨k1, k2, k3, -⟩ := ckV_ok hb
    have := sm_ge fun x hx => (k2 x hx).1
    have f2 := fac_20 (n := (sm xs).toNat) (by omega)
    have hlt : (((fac (sm xs).toNat : Nat) : Int) / hpr xs).natAbs ≤ ((fac (sm xs).toNat : Nat) : Int).natAbs := Int.natAbs_ediv_le_natAbs _ _
    unfold In64
    omega
  · rintro _ rfl
    unfold numV
    by_cases hb : ckV xs = 0
    · rw [if_pos hb]; exact endsq rfl rfl
    · rw [if_neg hb]; exact endsq rfl rfl
end Go.PI
/- RIM HOOKS, of the program. -/
open Go.Proofs
namespace Go.PI
open IM
set_option maxRecDepth 20000
set_option maxHeartbeats 1000000
variable (S : FuncId → Option (List AV → Heap → Option (AV × Heap)))
theorem fn15 : ctx.fn 15 = some c15 := by kernel_rfl
def Opr : Opn := ⟨fun t => Nat.beq t 31, fun t => Nat.beq t 31, false⟩
theorem appX3 {C : Ctx} {c k : Nat} {e t tx : TypeId} {rest : List TypeId} {v : PV} {n : Nat} {cs ys : List PV} {i m : Nat} {ty : TypeId} {σ : List StB} {ti xi ei : TI} {K : PV → List StB → Nat → Prop} (hg : Gx e v σ n cs) (hy : ys.length = 2) (ho : pones ys = true) (hx : contOf σ i = some (ty, ys)) (ht : C.ty t = some ti) (htd : ti.desc = .slice e) (htx : C.ty tx = some xi) (he : C.ty e = some ei) (hd : decide (srcOk xi.desc = true ∧ ei.bytes ≤ 2 ^ 10) = true) (hs : ei.size = 2)
    (hl : n ≤ 1000000) (hk : k < c) (hK : ∀ v' σ', Gx e v' σ' (n + 1) (cs ++ ys) → (∀ (j : Nat) (b : StB), blkOf v ≠ some j → σ[j]? = some b → σ'[j]? = some b) → blkOf v' = some σ.length → K v' σ' (k + 1)) : AppK C c k σ (t :: tx :: rest) v (.own i 0 1 1 m) K := by
  refine ⟨?_⟩
  obtain ⟨desc, sz, by', z⟩ := ti
  simp only at htd
  subst htd
  unfold pappK
  simp only [ht, htx, he, hd]
  refine ⟨ty, ys, ys, hx, by rw [hs, hy]; omega, by rw [hs, List.drop_zero, List.take_of_length_le (by omega)], ⟨by decide, ho⟩, ?_⟩
  obtain ⟨hcl, hg⟩ := hg
  have hcl2 : (cs ++ ys).length = 2 * (n + 1) := by rw [List.length_append]; omega
  rcases hg with ⟨rfl, rfl⟩ | ⟨j, h0, rfl, h⟩
  · have hc0 : cs = [] := List.length_eq_zero_iff.1 (by omega)
    subst hc0
    refine ⟨(fun h => by cases h), fun _ => ⟨hk, ?_⟩⟩
    rw [hs]
    exact hK _ _ ⟨hcl2, .inr ⟨σ.length, by omega, rfl, by simp⟩⟩ (fun q b _ hq => push_old hq) rfl
  · refine ⟨⟨by omega, hs.symm, hk⟩, cs, cs ++ ys, h, by rw [hs, hcl]; omega, by rw [hs, List.take_of_length_le (by omega)], ?_⟩
    exact hK _ _ ⟨hcl2, .inr ⟨σ.length, by omega, rfl, by simp⟩⟩ (fun q b hne hq => push_old (by rw [List.getElem?_set_ne (fun e => hne (by rw [← e]; rfl))]; exact hq)) rfl
theorem rng_wo (hS : OldO S) {w n d c k : Nat} {x : LpD} {σ : List StB} {K : Ex → List StB → Nat → Prop} (Inv : LpD → Nat → List StB → Prop) (hw : w < 2 ^ 64) (hn : 0 < n ∧ n ≤ 20) (hk : k + 2 + (64 * d + 4) ≤ c)
    (hpush : ∀ p σ' b, Inv x p σ' → Inv x p (σ' ++ [b])) (hset : ∀ p σ' y, Inv x p σ' → Inv x p (σ'.set (σ.length + 2) y))
    (h0 : ∀ L, L ≤ 64 → w < 2 ^ L → Inv x L (σ ++ [.lp x])) (hskip : ∀ (p : Nat) (σ' : List StB), (w.testBit p = true → n ≤ p → w.testBit (p - n) = true) → Inv x (p + 1) σ' → Inv x p σ')
    (hy : ∀ (p : Nat) (σ' : List StB), p < 64 → w.testBit p = true → n ≤ p → w.testBit (p - n) = false → Inv x (p + 1) σ' → σ.length + 2 < σ'.length → Cy (ctx.plus S) σ.length [pu (wo w n p), pn (bt w n p : Nat)] σ' d fun b σ2 => b = true ∧ Inv x p σ2 ∧ σ2[σ.length + 1]? = σ'[σ.length + 1]? ∧ σ2[σ.length + 2]? = σ'[σ.length + 2]?)
    (hK : ∀ σ', Inv x 0 σ' → rngE σ' σ.length fun e => K e (σ'.set σ.length .dead) (k + 2 + (64 * d + 4))) : RngK none (ctx.plus S) c (.fnc 105 [.lptr [pu w], .lptr [pn n]]) x σ k K := by
  have ln : (σ ++ [StB.lp x]).length = σ.length + 1 := by simp
  exact ⟨105, [.lptr [pu w], .lptr [pn n]], .inr rfl, rfl, [], show ∃ d R, _ ∧ _ ∧ _ from ⟨64 * d + 4, (fun r σ' => r = .tup [] ∧ Inv x 0 σ'), hk, without_cm S hS hw hn (Inv x) hpush (fun p σ' y h => by rw [ln]; exact hset p σ' y h) (fun p σ' h1 h2 h3 h4 h5 h6 => by rw [ln] at h6 ⊢; exact hy p σ' h1 h2 h3 h4 h5 h6) hskip h0, fun r σ' h => hK σ' h.2⟩⟩
def InvR (w n : Nat) (x : LpD) (p : Nat) (σ : List StB) : Prop :=
  ∃ v N, σ[0]? = some (.liv 31 [v]) ∧ σ[1]? = some (.lp x) ∧ Gx 42 v σ N (prL w n (64 - p)) ∧ N ≤ 64 ∧ ∀ j, blkOf v = some j → 4 ≤ j
theorem pc_le (w : Nat) : ∀ n, pc n w ≤ n
  | 0 => Nat.le_refl _
  | n + 1 => by
    rw [pc_snoc]
    have := pc_le w n
    split <;> omega
theorem rows_ct (hS : OldO S) {w : Nat} (hw : w < 2 ^ 64) : Ct (ctx.plus S) 60 [pu w] 1000 fun r => r = pIs (ptw w (fun p => pc p w) 64) :=
  part_ct S hS hw fun p hp _ => by
    refine ⟨by have := pc_le w p; omega, ?_⟩
    have h := between_ct S hS (w := w) (low := -1) (high := p) hw hp ⟨by omega, by omega⟩
    have e : pc 64 ((w % 2 ^ p) >>> ((-1 : Int) + 1).toNat) = pc p w := by
      have := bt_add (w := w) (l := 0) (high := p) (by omega) (by omega)
      show pc 64 ((w % 2 ^ p) >>> 0) = _
      have h0 : pc 0 w = 0 := rfl
      omega
    rw [e] at h
    exact h
theorem wo_lt {w n p : Nat} (hw : w < 2 ^ 64) (hp : p < 64) : wo w n p < 2 ^ 64 :=
  Nat.xor_lt_two_pow (Nat.xor_lt_two_pow hw (Nat.pow_lt_pow_right (by omega) hp)) (Nat.pow_lt_pow_right (by omega) (by omega))
theorem rimA_ct (hS : OldO S) {xs : List Int} {n : Nat} (hl : xs.length ≤ 1000000) (hb : ckV xs = 0) (hn : 0 < n ∧ n ≤ 20) : Ct (ctx.plus S) 15 [pIs xs, pn n] 100000 fun r => ∃ N, r = .tup [.lst N (prL (bdw xs 20) n 64), pn 0] ∧ (prL (bdw xs 20) n 64).length = 2 * N ∧ N ≤ 64 := by
  obtain ⟨k1, k2, k3, k4⟩ := ckV_ok hb
  refine ctO_of Opr (hS 15 (by decide)) fn15 ?_
  refine callq rfl (ck_ct S hS hl) (by omega) ?_
  rintro _ rfl
  rw [hb]
  refine ⟨fun h => absurd rfl h, fun _ => ?_⟩
  refine callq rfl (within_ct S hS) (by omega) ?_
  rintro _ rfl
  rw [decide_eq_true (show (1 : Int) ≤ (n : Int) ∧ (n : Int) ≤ 20 by omega)]
  refine ⟨by omega, ?_⟩
  refine callq rfl (beads_ct S hS (show xs.length ≤ 40 by omega) (fun x hx => by have := k2 x hx; omega)) (by omega) ?_
  rintro _ ⟨rfl, hw⟩
  have hw64 : bdw xs 20 < 2 ^ 64 := Nat.lt_trans hw (by decide)
  refine callq rfl (beadsW_ct S hS) (by omega) ?_
  rintro _ rfl
  refine rng_wo S hS (d := 1010) (InvR (bdw xs 20) n) hw64 hn (by omega) ?_ ?_ ?_ ?_ ?_ ?_
  · rintro p σ' b ⟨v, N, g0, g1, hg, hN, hv⟩
    exact ⟨v, N, push_old g0, push_old g1, hg.push, hN, hv⟩
  · rintro p σ' y ⟨v, N, g0, g1, hg, hN, hv⟩
    refine ⟨v, N, ?_, ?_, ?_, hN, hv⟩
    · show (σ'.set 3 y)[0]? = _
      rw [List.getElem?_set_ne (by omega)]; exact g0
    · show (σ'.set 3 y)[1]? = _
      rw [List.getElem?_set_ne (by omega)]; exact g1
    · obtain ⟨hl, h | ⟨j, h0, rfl, h⟩⟩ := hg
      · exact ⟨hl, .inl h⟩
      · have := hv j rfl
        exact ⟨hl, .inr ⟨j, h0, rfl, by show (σ'.set 3 y)[j]? = _; rw [List.getElem?_set_ne (by omega)]; exact h⟩⟩
  · intro L hL hwL
    refine ⟨.nils, 0, rfl, rfl, ?_, by omega, fun j h => by cases h⟩
    rw [prL_zero hwL _ (by omega)]
    exact Gx.nil
  · rintro p σ' hs ⟨v, N, g0, g1, hg, hN, hv⟩
    refine ⟨v, N, g0, g1, ?_, hN, hv⟩
    rcases Nat.lt_or_ge p 64 with hp | hp
    · rw [prL_at hp, if_neg (fun ⟨h1, h2, h3⟩ => by rw [hs h1 h2] at h3; cases h3), List.append_nil]
      exact hg
    · rw [show 64 - p = 64 - (p + 1) by omega]
      exact hg
  · rintro p σ' hp hbit hnp hfree ⟨v, N, g0, g1, hg, hN, hv⟩ hlen
    have hlen : 3 < σ'.length := hlen
    have l1 : 1 < σ'.length := (List.getElem?_eq_some_iff.1 g1).1
    have b0 : ∀ y, (σ'.set 1 y)[0]? = some (.liv 31 [v]) := fun y => by rw [List.getElem?_set_ne (by omega)]; exact g0
    have b1 : ∀ y, (σ'.set 1 y)[1]? = some y := fun y => List.getElem?_set_self l1
    have bj : ∀ (y : StB) (j : Nat), (j = 2 ∨ j = 3) → (σ'.set 1 y)[j]? = σ'[j]? := fun y j hj => List.getElem?_set_ne (by omega)
    refine cy_of Opr g1 rfl rfl fun c k hc => ?_
    refine ⟨rfl, _, g1, rfl, ?_⟩
    refine ⟨by kernel_rfl, ?_⟩
    have hsm : smP v = true := by rcases hg.2 with ⟨rfl, -⟩ | ⟨j, -, rfl, -⟩ <;> rfl
    refine ⟨_, load_liv (b0 _) rfl rfl, hsm, ?_⟩
    refine callq rfl (rows_ct S hS (wo_lt hw64 hp)) (show k + 1000 ≤ c by omega) ?_
    rintro _ rfl
    have bg : ∀ y, Gx 42 v (σ'.set 1 y) N (prL (bdw xs 20) n (64 - (p + 1))) := fun y => by
      obtain ⟨hl, h | ⟨j, h0, rfl, h⟩⟩ := hg
      · exact ⟨hl, .inl h⟩
      · have := hv j rfl
        exact ⟨hl, .inr ⟨j, h0, rfl, by rw [List.getElem?_set_ne (by omega)]; exact h⟩⟩
    refine part2 fzL fzI ⟨_, rfl, ?_⟩
    refine ⟨show k + 1000 < c by omega, partc rfl ⟨_, rfl, ?_⟩⟩
    refine appX3 (e := 42) (ys := itm (bdw xs 20) n p) (bg _).push rfl rfl push_cont rfl rfl rfl rfl (by kernel_rfl) rfl (by omega) (show k + 1000 + 1 < c by omega) fun v1 σ1 hw1 hk1 hb1 => ?_
    have hv1 : v1.pcells = [v1] ∧ v1.one = true := by rcases hw1.2 with ⟨rfl, -⟩ | ⟨j, -, rfl, -⟩ <;> exact ⟨rfl, rfl⟩
    obtain ⟨pc1, pc2⟩ := hv1
    have c0 := hk1 0 _ (fun e => by have := hv 0 e; omega) (push_old (b0 _))
    have c1 := hk1 1 _ (fun e => by have := hv 1 e; omega) (push_old (b1 _))
    have cc : ∀ (j : Nat) (y : StB), (j = 2 ∨ j = 3) → ((σ1.set 0 (.liv 31 [v1])).set 1 y)[j]? = σ'[j]? := fun j y hj => by
      rw [List.getElem?_set_ne (by omega), List.getElem?_set_ne (by omega), List.getElem?_eq_getElem (show j < σ'.length by omega)]
      exact hk1 j _ (fun e => by have := hv j e; omega) (push_old ((bj _ j hj).trans (List.getElem?_eq_getElem (show j < σ'.length by omega))))
    have l3 : 1 < σ1.length := (List.getElem?_eq_some_iff.1 c1).1
    have hge3 : ∀ j, blkOf v1 = some j → 4 ≤ j := fun j hj => by rw [hb1] at hj; cases hj; simp; omega
    refine ⟨_, _, c0, ⟨by rw [pc1]; rfl, Nat.le_refl 1, by rw [pc1]; simp [pones, pc2]⟩, _, (by rw [pc1]; rfl : pspl [v] 0 v1.pcells = [v1]), _, rfl, ?_⟩
    have m1 := (List.getElem?_set_ne (l := σ1) (i := 0) (j := 1) (a := StB.liv 31 [v1]) (by omega)).trans c1
    refine ⟨_, m1, show k + 1000 + 1 + 1 ≤ k + 1010 by omega, rfl, ⟨v1, N + 1, ?_, ?_, ?_, ?_, hge3⟩, cc 2 _ (.inl rfl), cc 3 _ (.inr rfl)⟩
    · show ((σ1.set 0 (.liv 31 [v1])).set 1 _)[0]? = _
      rw [List.getElem?_set_ne (by omega), List.getElem?_set_self (by omega)]
    · exact List.getElem?_set_self (show 1 < (σ1.set 0 (StB.liv 31 [v1])).length by rw [List.length_set]; exact l3)
    · rw [prL_at hp, if_pos ⟨hbit, hnp, hfree⟩]
      obtain ⟨hl, h | ⟨j, h0, rfl, h⟩⟩ := hw1
      · exact ⟨hl, .inl h⟩
      · have := hge3 j rfl
        refine ⟨hl, .inr ⟨j, h0, rfl, ?_⟩⟩
        show ((σ1.set 0 (.liv 31 [_])).set 1 _)[j]? = _
        rw [List.getElem?_set_ne (by omega), List.getElem?_set_ne (by omega)]
        exact h
    · have h1 := hg.1
      have ⟨M, h2, h3⟩ := prL_len (bdw xs 20) n (64 - (p + 1))
      omega
  · rintro σ' ⟨v, N, g0, g1, hg, hN, hv⟩
    refine ⟨_, g1, show LoopState.ready ≠ .busy from (fun h => by cases h), ?_⟩
    have l1 : 1 < σ'.length := (List.getElem?_eq_some_iff.1 g1).1
    have d0 : ∀ y, (σ'.set 1 y)[0]? = some (.liv 31 [v]) := fun y => by rw [List.getElem?_set_ne (by omega)]; exact g0
    have dg : ∀ y, Gx 42 v (σ'.set 1 y) N (prL (bdw xs 20) n 64) := fun y => by
      obtain ⟨hl, h | ⟨j, h0, rfl, h⟩⟩ := hg
      · exact ⟨hl, .inl h⟩
      · have := hv j rfl
        exact ⟨hl, .inr ⟨j, h0, rfl, by rw [List.getElem?_set_ne (by omega)]; exact h⟩⟩
    obtain ⟨σ4, hf⟩ := (dg .dead).fz
    refine ⟨_, load_liv (d0 _) rfl rfl, ?_⟩
    exact ⟨⟨[], hf (fun p' σ' => frzAsK σ' [pn 0] fun rs _ => ∃ N, PV.tup (p' :: rs) = .tup [.lst N (prL (bdw xs 20) n 64), pn 0] ∧ (prL (bdw xs 20) n 64).length = 2 * N ∧ N ≤ 64) ⟨N, rfl, hg.1, hN⟩⟩⟩
end Go.PI
/- PERMUTATIONS: inverses, products, cycles, of the program and of the reference. -/
open Go.Proofs
namespace Go.PI
open IM
set_option maxRecDepth 10000
set_option maxHeartbeats 4000000
variable (S : FuncId → Option (List AV → Heap → Option (AV × Heap)))
end Go.PI
/- PERMUTATIONS: what the reference makes of them; cycles. -/
open Go.Proofs
namespace Go.PI
open IM
set_option maxRecDepth 10000
set_option maxHeartbeats 4000000
variable (S : FuncId → Option (List AV → Heap → Option (AV × Heap)))
end Go.PI
/- THE CYCLES of a permutation. -/
open Go.Proofs
namespace Go.PI
open IM
set_option maxRecDepth 10000
set_option maxHeartbeats 4000000
variable (S : FuncId → Option (List AV → Heap → Option (AV × Heap)))
end Go.PI
/- CYCLES of a list; a part, of the reference. -/
open Go.Proofs
namespace Go.PI
open IM
set_option maxRecDepth 10000
set_option maxHeartbeats 4000000
variable (S : FuncId → Option (List AV → Heap → Option (AV × Heap)))
end Go.PI
/- THE TYPE OF A PERMUTATION, of the program. -/
open Go.Proofs
namespace Go.PI
open IM
set_option maxRecDepth 20000
set_option maxHeartbeats 4000000
variable (S : FuncId → Option (List AV → Heap → Option (AV × Heap)))
end Go.PI
/- THE TYPE OF A PERMUTATION, of the reference. -/
open Go.Proofs
namespace Go.PI
open IM
set_option maxRecDepth 20000
set_option maxHeartbeats 4000000
variable (S : FuncId → Option (List AV → Heap → Option (AV × Heap)))
end Go.PI
/- THE LAW OF CYCLES. -/
open Go.Proofs
namespace Go.PI
open IM
set_option maxRecDepth 20000
set_option maxHeartbeats 4000000
variable (S : FuncId → Option (List AV → Heap → Option (AV × Heap)))
theorem numV_form {xs : List Int} {X : Int} (h : ckV xs = 0) : numV xs X = .tup [pI X, pn 0] := by unfold numV; rw [if_pos h]
theorem numV_bad {xs : List Int} {X : Int} (h : ckV xs ≠ 0) : numV xs X = .tup [pIs [], pn (ckV xs)] := by unfold numV; rw [if_neg h]; rfl
end Go.PI
/- THE LAW OF HOOKS. -/
open Go.Proofs
namespace Go.PI
open IM
set_option maxRecDepth 20000
set_option maxHeartbeats 4000000
variable (S : FuncId → Option (List AV → Heap → Option (AV × Heap)))
theorem fn3 : ctx.fn 3 = some c3 := by kernel_rfl
theorem rim_bad (hS : OldO S) {xs : List Int} {k : Int} (hl : xs.length ≤ 1000000) (hb : ckV xs ≠ 0) : Ct (ctx.plus S) 15 [pIs xs, pn k] 0 fun r => r = .tup [.lst 0 [], pn (ckV xs)] := by
  refine ctO_of Opr (hS 15 (by decide)) fn15 ?_
  refine callq rfl (ck_ct S hS hl) (by omega) ?_
  rintro _ rfl
  refine ⟨fun _ => ?_, fun h => absurd h hb⟩
  exact ⟨⟨[], rfl⟩⟩
theorem rim_out (hS : OldO S) {xs : List Int} {k : Int} (hl : xs.length ≤ 1000000) (hb : ckV xs = 0) (hk : ¬ (1 ≤ k ∧ k ≤ 20)) : Ct (ctx.plus S) 15 [pIs xs, pn k] 0 fun r => r = .tup [.lst 0 [], pn 2] := by
  refine ctO_of Opr (hS 15 (by decide)) fn15 ?_
  refine callq rfl (ck_ct S hS hl) (by omega) ?_
  rintro _ rfl
  rw [hb]
  refine ⟨fun h => absurd rfl h, fun _ => ?_⟩
  refine callq rfl (within_ct S hS) (by omega) ?_
  rintro _ rfl
  rw [decide_eq_false hk]
  exact ⟨⟨[], rfl⟩⟩
def prs : List (List Int × Int) → List PV
  | [] => []
  | x :: L => pIs x.1 :: pn x.2 :: prs L
theorem prs_app : ∀ (A B : List (List Int × Int)), prs (A ++ B) = prs A ++ prs B
  | [], _ => rfl
  | x :: A, B => by
    show pIs x.1 :: pn x.2 :: prs (A ++ B) = _
    rw [prs_app A B]; rfl
theorem prs_len : ∀ L : List (List Int × Int), (prs L).length = 2 * L.length
  | [] => rfl
  | x :: L => by
    show (prs L).length + 1 + 1 = _
    rw [prs_len L, List.length_cons]; omega
theorem prs_get : ∀ {L : List (List Int × Int)} {q : Nat} {x : List Int × Int}, L[q]? = some x → (prs L)[2 * q]? = some (pIs x.1) ∧ (prs L)[2 * q + 1]? = some (pn x.2)
  | [], q, x, h => by simp at h
  | y :: L, 0, x, h => by
    have : y = x := by simpa using h
    subst this
    exact ⟨rfl, rfl⟩
  | y :: L, q + 1, x, h => by
    have := prs_get (L := L) (q := q) (x := x) (by simpa using h)
    exact this
theorem prL_prs (w n : Nat) : ∀ m, ∃ L : List (List Int × Int), prL w n m = prs L ∧ ∀ x ∈ L, x.1.length ≤ 64
  | 0 => ⟨[], rfl, fun x h => by cases h⟩
  | m + 1 => by
    obtain ⟨L, h1, h2⟩ := prL_prs w n m
    show ∃ L, prL w n m ++ _ = prs L ∧ _
    split
    · refine ⟨L ++ [(ptw (wo w n (63 - m)) (fun P => pc P (wo w n (63 - m))) 64, ((bt w n (63 - m) : Nat) : Int))], ?_, fun x hx => ?_⟩
      · rw [prs_app, h1]; rfl
      · rcases List.mem_append.1 hx with h | h
        · exact h2 x h
        · rw [List.mem_singleton.1 h]
          exact ptw_len _ _ _
    · exact ⟨L, by rw [List.append_nil, h1], h2⟩
theorem hooksLaw_ct (hS : OldO S) {dA : Nat} (hA : Ct (ctx.plus S) 12 [] dA fun r => r = .bool true) {xs : List Int} {k : Int} : Ct (ctx.plus S) 3 [pIs xs, pn k] (40000000 + dA) fun r => r = .bool true := by
  refine ct_of (hS 3 (by decide)) fn3 ?_
  refine callq rfl (long_ct S hS) (by omega) ?_
  rintro _ rfl
  by_cases hlx : 40 < xs.length
  · rw [decide_eq_true hlx]
    refine callq rfl hA (by omega) ?_
    rintro _ rfl
    exact endq rfl rfl
  rw [decide_eq_false hlx]
  refine callq rfl (hooksA_ct S hS (by omega)) (by omega) ?_
  rintro _ rfl
  by_cases hb : ckV xs = 0
  · obtain ⟨k1, k2, k3, k4⟩ := ckV_ok hb
    obtain ⟨hD, hP⟩ := ckV_dsc hb
    have hf := ckV_bd hb
    rw [if_pos hb]
    refine callq rfl (dimA_ct S hS (by omega)) (by omega) ?_
    rintro _ rfl
    rw [numV_form hb]
    have hdim := rdim_ct S hS hf (by omega) hD hP k3
    have f2 := fac_20 (n := (sm xs).toNat) (by have := sm_ge fun x hx => (k2 x hx).1; omega)
    have hrb : ∀ x ∈ hks xs xs.length, x.length ≤ 1000000 := fun x hx => by
      obtain ⟨i, hi, rfl⟩ := List.mem_map.1 hx
      rw [hrow_len]
      have hi := List.mem_range.1 hi
      have := k2 (xs.getD i 0) (by rw [List.getD_eq_getElem?_getD, List.getElem?_eq_getElem hi]; exact List.getElem_mem hi)
      omega
    have dl : 1 ≤ hpr xs → (digits (((fac (sm xs).toNat : Nat) : Int) / hpr xs)).length ≤ 1000000 := fun hp1 => by
      have hlt : (((fac (sm xs).toNat : Nat) : Int) / hpr xs).natAbs ≤ ((fac (sm xs).toNat : Nat) : Int).natAbs := Int.natAbs_ediv_le_natAbs _ _
      have h0 : 0 ≤ ((fac (sm xs).toNat : Nat) : Int) / hpr xs := Int.ediv_nonneg (by omega) (by omega)
      have := dig_18 (X := ((fac (sm xs).toNat : Nat) : Int) / hpr xs) (by omega)
      omega
    by_cases hk : 1 ≤ k ∧ k ≤ 20
    · obtain ⟨n, rfl⟩ : ∃ n : Nat, k = n := ⟨k.toNat, by omega⟩
      refine callq rfl (rimA_ct S hS (n := n) (by omega) hb (by omega)) (by omega) ?_
      rintro _ ⟨N, rfl, hN1, hN2⟩
      refine callq rfl (rck_ct S hS (by omega)) (by omega) ?_
      rintro _ rfl
      rw [hb]
      refine ⟨fun h => absurd rfl h, fun _ => ?_⟩
      refine ⟨fun h => absurd rfl h, fun _ => ?_⟩
      refine ⟨fun h => absurd rfl h, fun _ => ?_⟩
      refine callq rfl (rhooks_ct S hS hf (by omega) hD) (by omega) ?_
      rintro _ rfl
      refine callq rfl (lists_ct S hS (X := hks xs xs.length) (Y := hks xs xs.length) (by rw [hks_len]; omega) (by rw [hks_len]; omega) hrb hrb) (by omega) ?_
      rintro _ rfl
      rw [decide_eq_true rfl]
      refine callq rfl hdim (by omega) ?_
      rintro _ ⟨rfl, d1, d2⟩
      refine callq rfl (ints_ct S hS (xs := digits (((fac (sm xs).toNat : Nat) : Int) / hpr xs)) (ys := digits (((fac (sm xs).toNat : Nat) : Int) / hpr xs)) (dl d1) (dl d1)) (by omega) ?_
      rintro _ rfl
      rw [decide_eq_true rfl]
      refine callq rfl (rwithin_ct S hS) (by omega) ?_
      rintro _ rfl
      rw [decide_eq_true hk]
      refine callq rfl (rrim_ct S hS hf (by omega) (show n ≤ 20 by omega)) (by omega) ?_
      rintro _ ⟨M, rfl, hM1, hM2⟩
      have hsame := hooks_same (n := n) k2 hP k1 (by omega)
      rw [← hsame] at hM1 ⊢
      obtain rfl : M = N := by omega
      obtain ⟨L, hL, hLl⟩ := prL_prs (bdw xs 20) n 64
      rw [hL] at hM1 ⊢
      rw [prs_len] at hM1
      refine ⟨fun h => absurd rfl h, fun _ => ?_⟩
      refine ⟨fun h => absurd rfl h, fun _ => ?_⟩
      refine ⟨fun m s => ∃ (i b : Nat) (T : List PV), s = ⟨T, [], b⟩ ∧ Gt T 141 [(9, .lst M (prs L)), (12, .lst M (prs L)), (13, pn i)] ∧ m = M - i ∧ i ≤ M ∧ b ≤ 40000000, ⟨_, ci ⟨0, _, _, rfl, ⟨rfl, rfl, rfl, rfl, trivial⟩, rfl, Nat.zero_le _, by omega⟩⟩, ?_⟩
      rintro _ s ⟨i, b, T, rfl, hT, rfl, hi, hbb⟩
      obtain ⟨J, rfl⟩ := gt_open hT
      clear hT
      refine ⟨fun hlt => ?_, fun hge => ?_⟩
      · obtain ⟨x, hx⟩ : ∃ x, L[i]? = some x := ⟨_, List.getElem?_eq_getElem (by omega)⟩
        obtain ⟨g0, g1⟩ := prs_get hx
        have hxl := hLl x (List.mem_of_getElem? hx)
        refine ⟨by kernel_rfl, ?_⟩
        have hd1 : (((prs L).drop ((i : Int).toNat * 2)).drop 1)[0]? = some (pn x.2) := by rw [List.drop_drop]; exact ld g1 (by omega)
        have hd0 : (((prs L).drop ((i : Int).toNat * 2)).drop 0)[0]? = some (pIs x.1) := by rw [List.drop_drop]; exact ld g0 (by omega)
        have hix : (i : Int).toNat * 2 ≤ (prs L).length := by rw [prs_len]; omega
        have hf1 : 1 ≤ ((prs L).drop ((i : Int).toNat * 2)).length := by rw [List.length_drop, prs_len]; omega
        refine ⟨⟨⟨by omega, by omega⟩, hix⟩, ?_⟩
        refine ⟨hf1, ?_⟩
        refine ⟨_, hd1, rfl, ?_⟩
        refine ⟨⟨⟨by omega, by omega⟩, hix⟩, ?_⟩
        refine ⟨hf1, ?_⟩
        refine ⟨_, hd1, rfl, ?_⟩
        refine ⟨fun h => absurd rfl h, fun _ => ?_⟩
        refine ⟨⟨⟨by omega, by omega⟩, hix⟩, ?_⟩
        refine ⟨Nat.zero_le _, ?_⟩
        refine ⟨_, hd0, rfl, ?_⟩
        refine ⟨⟨⟨by omega, by omega⟩, hix⟩, ?_⟩
        refine ⟨Nat.zero_le _, ?_⟩
        refine ⟨_, hd0, rfl, ?_⟩
        refine callq rfl (ints_ct S hS (xs := x.1) (ys := x.1) (by omega) (by omega)) (by omega) ?_
        rintro _ rfl
        rw [decide_eq_true rfl]
        refine ⟨⟨by omega, by omega⟩, ?_⟩
        have ei : pn ((i : Int) + 1) = pn ((i + 1 : Nat) : Int) := congrArg pn (by omega)
        exact ⟨_, by omega, ci ⟨i + 1, _, _, rfl, ⟨rfl, rfl, rfl, ei, trivial⟩, rfl, by omega, by omega⟩⟩
      · refine callq rfl hA (by omega) ?_
        rintro _ rfl
        exact endq rfl rfl
    · refine callq rfl (rim_out S hS (by omega) hb hk) (by omega) ?_
      rintro _ rfl
      refine callq rfl (rck_ct S hS (by omega)) (by omega) ?_
      rintro _ rfl
      rw [hb]
      refine ⟨fun h => absurd rfl h, fun _ => ?_⟩
      refine ⟨fun h => absurd rfl h, fun _ => ?_⟩
      refine ⟨fun h => absurd rfl h, fun _ => ?_⟩
      refine callq rfl (rhooks_ct S hS hf (by omega) hD) (by omega) ?_
      rintro _ rfl
      refine callq rfl (lists_ct S hS (X := hks xs xs.length) (Y := hks xs xs.length) (by rw [hks_len]; omega) (by rw [hks_len]; omega) hrb hrb) (by omega) ?_
      rintro _ rfl
      rw [decide_eq_true rfl]
      refine callq rfl hdim (by omega) ?_
      rintro _ ⟨rfl, d1, d2⟩
      refine callq rfl (ints_ct S hS (xs := digits (((fac (sm xs).toNat : Nat) : Int) / hpr xs)) (ys := digits (((fac (sm xs).toNat : Nat) : Int) / hpr xs)) (dl d1) (dl d1)) (by omega) ?_
      rintro _ rfl
      rw [decide_eq_true rfl]
      refine callq rfl (rwithin_ct S hS) (by omega) ?_
      rintro _ rfl
      rw [decide_eq_false hk]
      refine ⟨fun _ => ?_, fun h => absurd rfl h⟩
      refine ⟨fun _ => ?_, fun h => absurd rfl h⟩
      refine callq rfl hA (by omega) ?_
      rintro _ rfl
      exact endq rfl rfl
  · rw [if_neg hb]
    refine callq rfl (dimA_ct S hS (by omega)) (by omega) ?_
    rintro _ rfl
    rw [numV_bad hb]
    refine callq rfl (rim_bad S hS (by omega) hb) (by omega) ?_
    rintro _ rfl
    refine callq rfl (rck_ct S hS (by omega)) (by omega) ?_
    rintro _ rfl
    refine ⟨fun _ => ?_, fun h => absurd h hb⟩
    refine ⟨fun _ => ?_, fun h => absurd rfl h⟩
    refine ⟨fun _ => ?_, fun h => absurd rfl h⟩
    refine ⟨fun _ => ?_, fun h => absurd rfl h⟩
    refine ⟨by unfold In64; decide, ?_⟩
    refine ⟨by unfold In64; decide, ?_⟩
    refine ⟨fun _ => ?_, fun h => absurd rfl h⟩
    refine callq rfl hA (by omega) ?_
    rintro _ rfl
    exact endq rfl rfl
end Go.PI
