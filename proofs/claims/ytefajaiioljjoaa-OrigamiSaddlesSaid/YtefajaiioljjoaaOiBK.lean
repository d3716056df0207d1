/- Own work of the verifier: OgSi. -/
import Derived.Test.YtefajaiioljjoaaOiBG
import Derived.Test.YtefajaiioljjoaaOiBA
set_option linter.all false
set_option exponentiation.threshold 3000
set_option linter.deprecated false
/- SADDLES: the answers, and the law, given what the two inner functions make. -/
open Go.Proofs
namespace Go.PI
open IM
set_option maxRecDepth 10000
set_option maxHeartbeats 4000000
variable (S : FuncId → Option (List AV → Heap → Option (AV × Heap)))
/-- what the program's inner function makes, and the reference's -/
def SadP (f0 d : Nat) : Prop := ∀ (r u : List Int) (n : Nat) (f f' g g' : Nat → Nat), IsO r u n f f' g g' → Ct (ctx.plus S) f0 [pO r u] d fun v => v = pSd n f (cmf f f' g g') (sing (cmf f f' g g') n)
theorem fn96 : ctx.fn 96 = some c96 := by kernel_rfl
theorem answer96_ct (hS : OldO S) {r u : List Int} {chk dc g d : Nat} {e : Int} {Q : PV → Prop} (hc : Ct (ctx.plus S) chk [pOs [(r, u)]] dc fun v => v = pn e) (hq : ∀ v, Q v → cloA v = true) (hg : e = 0 → Ct (ctx.plus S) g [pO r u] d Q) :
    Ct (ctx.plus S) 96 [pO r u, .fn chk, .fn g] (2 + dc + d) fun v => (e ≠ 0 ∧ v = .tup [.lst 0 [], pn e]) ∨ (e = 0 ∧ ∃ w, Q w ∧ v = .tup [w, pn 0]) := by
  refine ct_of (hS 96 (by decide)) fn96 ?_
  refine ⟨by omega, ?_⟩
  refine ⟨_, rfl, ?_⟩
  refine ⟨by omega, partc rfl ⟨_, rfl, ?_⟩⟩
  refine cal1 (fz_own (ty := 24) rfl (Nat.le_refl 2) (Nat.le_refl _) rfl) hc (by omega) ?_
  rintro _ rfl
  refine ⟨fun h0 => ?_, fun h0 => ?_⟩
  · exact ⟨⟨[], .inl ⟨h0, rfl⟩⟩⟩
  · refine ⟨_, rfl, ?_⟩
    refine callq rfl (hg h0) (by omega) ?_
    intro w hw
    exact endsq (by simp only [cloAs, hq w hw]; rfl) (.inr ⟨h0, w, hw, rfl⟩)
theorem fn52 : ctx.fn 52 = some c52 := by kernel_rfl
theorem psaddles_ct (hS : OldO S) (hP : SadP S 97 20000) {r u : List Int} {n : Nat} {f f' g g' : Nat → Nat} (h : IsO r u n f f' g g') : Ct (ctx.plus S) 52 [pO r u] 20100 fun v => v = .tup [pSd n f (cmf f f' g g') (sing (cmf f f' g g') n), pn 0] := by
  have hl := h.l1
  have hn := h.le
  refine ct_of (hS 52 (by decide)) fn52 ?_
  refine ⟨by omega, ?_⟩
  refine ⟨_, rfl, ?_⟩
  refine callq rfl (answer96_ct S hS (check1_ct S hS (by omega) (by omega)) (Q := fun v => v = pSd n f (cmf f f' g g') (sing (cmf f f' g g') n)) (fun v e => by rw [e]; rfl) (d := 20000) fun h0 => hP r u n f f' g g' h) (by omega) ?_
  rintro _ (⟨h0, rfl⟩ | ⟨h0, w, rfl, rfl⟩)
  · exact absurd h.chk h0
  · exact endsq rfl rfl
theorem psaddles_bad (hS : OldO S) {r u : List Int} (l1 : r.length ≤ 1000000) (l2 : u.length ≤ 1000000) (hb : chkO r u ≠ 0) : Ct (ctx.plus S) 52 [pO r u] 20100 fun v => v = .tup [.lst 0 [], pn (chkO r u)] := by
  refine ct_of (hS 52 (by decide)) fn52 ?_
  refine ⟨by omega, ?_⟩
  refine ⟨_, rfl, ?_⟩
  refine callq rfl (answer96_ct S hS (check1_ct S hS l1 l2) (Q := fun _ => False) (fun v e => e.elim) (d := 20000) fun h0 => absurd h0 hb) (by omega) ?_
  rintro _ (⟨h0, rfl⟩ | ⟨h0, w, hw, rfl⟩)
  · exact endsq rfl rfl
  · exact absurd h0 hb
theorem sd_at {n : Nat} {f c : Nat → Nat} {l : List Nat} {i x q : Nat} (he : l[i]? = some x) (hq : q = 6 * i) : partP t69 (((sds n f c l).map pn).drop q) 0 = some (.agg ((sdl n f c x).map pn)) := by
  have hfl : ((sds n f c l).map pn).length = 6 * l.length := by rw [List.length_map, sds_len]
  have hi : i < l.length := (List.getElem?_eq_some_iff.1 he).1
  show (if 0 + 6 ≤ (((sds n f c l).map pn).drop q).length then some (PV.agg (((((sds n f c l).map pn).drop q).drop 0).take 6)) else none) = _
  rw [if_pos (by rw [List.length_drop, hfl]; omega), List.drop_zero, ← List.map_drop, ← List.map_take, sds_at he hq]
theorem peqI_same : ∀ (xs : List Int), peqI (xs.map pn) (xs.map pn) = some true
  | [] => rfl
  | x :: xs => by
    show (match peqI (xs.map pn) (xs.map pn) with | some r => _ | none => none) = _
    rw [peqI_same xs]
    simp
theorem fn10 : ctx.fn 10 = some c10 := by kernel_rfl
theorem sadLaw_ct (hS : OldO S) (hA : Ct (ctx.plus S) 13 [] 0 fun r => r = .bool true) (hP : SadP S 97 20000) (hR : SadP S 53 10000000) {r u : List Int} : Ct (ctx.plus S) 10 [pO r u] 20000000 fun v => v = .bool true := by
  refine ct_of (hS 10 (by decide)) fn10 ?_
  refine ⟨by omega, ?_⟩
  refine callq rfl hA (by omega) ?_
  rintro _ rfl
  refine ⟨_, rfl, ?_⟩
  refine callq rfl (few_ct S hS) (by omega) ?_
  rintro _ (⟨hf, rfl⟩ | ⟨hf, rfl⟩)
  · have l1 : r.length ≤ 62 ∧ u.length ≤ 62 := by rcases hf with h | h <;> omega
    by_cases h0 : chkO r u = 0
    · obtain ⟨n, f, f', g, g', h⟩ := chkO_ok h0
      have hn := h.le
      obtain ⟨P, hPd⟩ : ∃ P, P = sing (cmf f f' g g') n := ⟨_, rfl⟩
      have hPl : P.length ≤ n := by rw [hPd]; exact sing_len
      have hps := psaddles_ct S hS hP h
      have hrs := hR r u n f f' g g' h
      rw [← hPd] at hps hrs
      refine ⟨_, rfl, ?_⟩
      refine callq rfl hps (by omega) ?_
      rintro _ rfl
      refine ⟨_, rfl, ?_⟩
      refine callq rfl (rcheck_ct S hS (by omega) (by omega)) (by omega) ?_
      rintro _ rfl
      rw [h0]
      refine ⟨fun h => absurd rfl h, fun _ => ?_⟩
      refine ⟨_, rfl, ?_⟩
      refine callq rfl hrs (by omega) ?_
      rintro _ rfl
      refine ⟨fun h => absurd rfl h, fun _ => ?_⟩
      refine ⟨fun h => absurd rfl h, fun _ => ?_⟩
      obtain ⟨c, hc⟩ : ∃ c, c = cmf f f' g g' := ⟨_, rfl⟩
      rw [← hc]
      clear hps hrs hPd hc
      refine ⟨fun m s => ∃ (i : Nat) (T : List PV), s = ⟨T, [.live 24 [pIs r, pIs u]], 10020103⟩ ∧ Gt T 56 [(3, pSd n f c P), (6, pSd n f c P), (7, pn i)] ∧ m = P.length - i ∧ i ≤ P.length, ⟨_, ci ⟨0, _, rfl, ⟨rfl, rfl, rfl, rfl, trivial⟩, rfl, Nat.zero_le _⟩⟩, ?_⟩
      rintro _ s ⟨i, T, rfl, hT, rfl, hi⟩
      obtain ⟨J, rfl⟩ := gt_open hT
      clear hT
      refine ⟨fun hlt => ?_, fun hge => ?_⟩
      · have hlt : (i : Int) < (P.length : Nat) := hlt
        obtain ⟨x, hx⟩ : ∃ x, P[i]? = some x := ⟨_, List.getElem?_eq_getElem (by omega)⟩
        have hfl : ((sds n f c P).map pn).length = 6 * P.length := by rw [List.length_map, sds_len]
        refine ⟨by kernel_rfl, ?_⟩
        refine ⟨⟨⟨by omega, by show (i : Int) < (P.length : Nat); omega⟩, by rw [hfl]; show i * 6 ≤ _; omega⟩, ?_⟩
        refine ⟨_, sd_at hx (by show _ * 6 = _; omega), rfl, ?_⟩
        refine ⟨⟨⟨by omega, by show (i : Int) < (P.length : Nat); omega⟩, by rw [hfl]; show i * 6 ≤ _; omega⟩, ?_⟩
        refine ⟨_, sd_at hx (by show _ * 6 = _; omega), rfl, ?_⟩
        refine ⟨true, ⟨peqI_same (sdl n f c x), rfl⟩, ?_⟩
        refine ⟨⟨by omega, by omega⟩, ?_⟩
        exact ⟨_, by omega, ci ⟨i + 1, _, rfl, ⟨rfl, rfl, rfl, rfl, trivial⟩, rfl, by omega⟩⟩
      · exact endq rfl rfl
    · refine ⟨_, rfl, ?_⟩
      refine callq rfl (psaddles_bad S hS (by omega) (by omega) h0) (by omega) ?_
      rintro _ rfl
      refine ⟨_, rfl, ?_⟩
      refine callq rfl (rcheck_ct S hS (by omega) (by omega)) (by omega) ?_
      rintro _ rfl
      refine ⟨fun _ => ?_, fun h => absurd h h0⟩
      refine ⟨fun _ => ?_, fun h => absurd rfl h⟩
      refine ⟨fun _ => ?_, fun h => absurd rfl h⟩
      exact endq rfl rfl
  · exact endq rfl rfl
end Go.PI
