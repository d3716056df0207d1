/- Own work of the verifier: OgN OgO. -/
import Derived.Test.YtefajaiioljjoaaOhBB
set_option linter.all false
set_option exponentiation.threshold 3000
set_option linter.deprecated false
/- DIRECTIONS: origamis cut anew, by the program. -/
open Go.Proofs
namespace Go.PI
open IM
set_option maxRecDepth 10000
set_option maxHeartbeats 4000000
variable (S : FuncId → Option (List AV → Heap → Option (AV × Heap)))
theorem fn130 : ctx.fn 130 = some c130 := by kernel_rfl
theorem clone_cm (hS : OldO S) {xs : List Int} {σ : List StB} (hl : xs.length ≤ 1000000) (h0 : xs ≠ []) : Cm (ctx.plus S) 130 [pIs xs] σ 3 fun r σ' => Wrt σ σ' r xs := by
  have hne : xs.length ≠ 0 := fun h => h0 (List.eq_nil_of_length_eq_zero h)
  refine cm_of Opn.no (hS 130 (by decide)) fn130 fun c k0 hc => ?_
  refine ⟨hne, ?_⟩
  refine ⟨by omega, part0 ⟨[], rfl, ?_⟩⟩
  have hpn : pones (xs.map pn) = true := pones_pn _
  refine ⟨⟨by rw [List.length_map]; show _ = _ * 1; omega, ⟨by show xs.length ≤ 2 ^ 30; omega, hpn⟩, by decide, fun h => absurd h (by omega), fun h => ⟨by omega, 3, [], _, push_cont, by decide, rfl, ?_⟩⟩⟩
  refine endm [] (by dsimp only; omega) ?_
  exact ⟨σ.length + 1, .inr (by rw [List.length_append, Nat.zero_add]; rfl), push_at (by simp), Nat.le_succ _, fun i b hb => by
      rw [List.getElem?_append_left (by simp; have := (List.getElem?_eq_some_iff.1 hb).1; omega), List.getElem?_append_left (List.getElem?_eq_some_iff.1 hb).1]
      exact hb⟩
theorem clone_ct (hS : OldO S) {xs : List Int} (hl : xs.length ≤ 1000000) (h0 : xs ≠ []) : Ct (ctx.plus S) 130 [pIs xs] 3 fun r => r = pIs xs := (clone_cm S hS hl h0).ct fun _ _ h => h.fz
theorem PL_ne {n : Nat} {f : Nat → Nat} (h : 0 < n) : PL n f ≠ [] := fun e => by
  have := PL_len (n := n) (f := f)
  rw [e] at this
  simp at this
  omega
theorem fn133 : ctx.fn 133 = some c133 := by kernel_rfl
theorem turned_ct (hS : OldO S) {n : Nat} {f f' g g' : Nat → Nat} (hn : n ≤ 1000) (pr : IsP n f f') (pu : IsP n g g') : Ct (ctx.plus S) 133 [pO (PL n f) (PL n g)] 4 fun v => v = pO (PL n f') (PL n g') := by
  refine ct_of (hS 133 (by decide)) fn133 ?_
  refine ⟨by omega, by omega, ?_⟩
  refine ⟨by kernel_rfl, ?_⟩
  refine ⟨_, rfl, rfl, ?_⟩
  refine callq rfl (inverse_ct S hS pr (by omega)) (by omega) ?_
  rintro _ rfl
  refine ⟨_, rfl, rfl, ?_⟩
  refine callq rfl (inverse_ct S hS pu (by omega)) (by omega) ?_
  rintro _ rfl
  refine partc rfl ⟨_, rfl, ?_⟩
  refine ⟨_, _, rfl, ⟨rfl, Nat.le_refl 2, rfl⟩, _, rfl, _, rfl, ?_⟩
  exact ⟨_, rfl, endq rfl rfl⟩
theorem fn132 : ctx.fn 132 = some c132 := by kernel_rfl
theorem sheared_ct (hS : OldO S) {n : Nat} {f f' g g' : Nat → Nat} {k : Int} (hn : n ≤ 1000) (pr : IsP n f f') (pu : IsP n g g') (hk : k.natAbs ≤ 2000) : Ct (ctx.plus S) 132 [pO (PL n f) (PL n g), pn k] 2010 fun v => v = pO (PL n f) (PL n fun i => shf f f' k (g i)) := by
  refine ct_of (hS 132 (by decide)) fn132 ?_
  refine ⟨by omega, by omega, ?_⟩
  refine ⟨_, rfl, ?_⟩
  refine ⟨fun hneg => ?_, fun hpos => ?_⟩
  · refine callq rfl (inverse_ct S hS pr (by omega)) (by omega) ?_
    rintro _ rfl
    refine ⟨⟨by omega, by omega⟩, ?_⟩
    have hst := pr.inv
    refine ⟨fun m s => ∃ (j : Nat) (T : List PV), s = ⟨T, [.live 24 [pIs (PL n f), pIs (PL n fun i => it f' j (g i))], .live 24 [.lst 0 [], .lst 0 []]], 3 + j⟩ ∧ Gt T 24 [(2, .optr 0 0), (4, .optr 1 0), (5, pIs (PL n f')), (14, pn (0 - k)), (15, pn j)] ∧ m = (0 - k).toNat - j ∧ (j : Int) ≤ 0 - k, ⟨_, ci ⟨0, _, rfl, ⟨rfl, rfl, rfl, rfl, rfl, rfl, trivial⟩, rfl, by omega⟩⟩, ?_⟩
    rintro m s ⟨j, T, rfl, hT, hm, hj⟩
    obtain ⟨J, rfl⟩ := gt_open hT
    clear hT
    refine ⟨fun hlt => ?_, fun hge => ?_⟩
    · refine ⟨_, rfl, ?_⟩
      refine callq rfl (product_ct S hS (f := fun i => it f' j (g i)) (g := f') (fun i hi => it_lt hst (pu.lt i hi) j) (by omega)) (by omega) ?_
      rintro _ rfl
      refine ⟨_, _, rfl, ⟨rfl, Nat.le_refl 2, rfl⟩, _, rfl, _, rfl, ?_⟩
      refine ⟨⟨by omega, by omega⟩, ?_⟩
      exact ⟨_, by omega, ci ⟨j + 1, _, rfl, ⟨rfl, rfl, rfl, rfl, rfl, rfl, trivial⟩, rfl, by omega⟩⟩
    · refine ⟨_, rfl, ?_⟩
      refine ⟨_, _, rfl, ⟨rfl, Nat.le_refl 2, rfl⟩, _, rfl, _, rfl, ?_⟩
      refine ⟨_, rfl, endq rfl ?_⟩
      have hjq : j = (0 - k).toNat := by omega
      have e : (fun i => it f' j (g i)) = fun i => shf f f' k (g i) := by
        funext i
        unfold shf
        rw [if_neg (by omega), hjq, show (0 - k).toNat = (-k).toNat by omega]
      show PV.agg _ = PV.agg _
      rw [e]
      rfl
  · have hst := pr
    refine ⟨fun m s => ∃ (j : Nat) (T : List PV), s = ⟨T, [.live 24 [pIs (PL n f), pIs (PL n fun i => it f j (g i))], .live 24 [.lst 0 [], .lst 0 []]], 2 + j⟩ ∧ Gt T 24 [(2, .optr 0 0), (4, .optr 1 0), (5, pIs (PL n f)), (14, pn (k)), (15, pn j)] ∧ m = (k).toNat - j ∧ (j : Int) ≤ k, ⟨_, ci ⟨0, _, rfl, ⟨rfl, rfl, rfl, rfl, rfl, rfl, trivial⟩, rfl, by omega⟩⟩, ?_⟩
    rintro m s ⟨j, T, rfl, hT, hm, hj⟩
    obtain ⟨J, rfl⟩ := gt_open hT
    clear hT
    refine ⟨fun hlt => ?_, fun hge => ?_⟩
    · refine ⟨_, rfl, ?_⟩
      refine callq rfl (product_ct S hS (f := fun i => it f j (g i)) (g := f) (fun i hi => it_lt hst (pu.lt i hi) j) (by omega)) (by omega) ?_
      rintro _ rfl
      refine ⟨_, _, rfl, ⟨rfl, Nat.le_refl 2, rfl⟩, _, rfl, _, rfl, ?_⟩
      refine ⟨⟨by omega, by omega⟩, ?_⟩
      exact ⟨_, by omega, ci ⟨j + 1, _, rfl, ⟨rfl, rfl, rfl, rfl, rfl, rfl, trivial⟩, rfl, by omega⟩⟩
    · refine ⟨_, rfl, ?_⟩
      refine ⟨_, _, rfl, ⟨rfl, Nat.le_refl 2, rfl⟩, _, rfl, _, rfl, ?_⟩
      refine ⟨_, rfl, endq rfl ?_⟩
      have hjq : j = (k).toNat := by omega
      have e : (fun i => it f j (g i)) = fun i => shf f f' k (g i) := by
        funext i
        unfold shf
        rw [if_pos (by omega), hjq]
      show PV.agg _ = PV.agg _
      rw [e]
      rfl
theorem fn101 : ctx.fn 101 = some c101 := by kernel_rfl
theorem step_q {s : TS} (h : s.q ≠ 0) (hp : s.p.natAbs ≤ 1000) (hq : s.q.natAbs ≤ 1000) : (floorZ s.p s.q).natAbs ≤ 2000 ∧ (floorZ s.p s.q * s.q).natAbs ≤ 2000 ∧ (s.p - floorZ s.p s.q * s.q).natAbs < s.q.natAbs := by
  obtain ⟨k, hk⟩ := floor_ex (p := s.p) h
  rw [floorZ_is h hk]
  exact floor_size h hk hp hq
/-- what the descent ends with -/
def TowP (s : TS) (n : Nat) (v : PV) : Prop := ∃ k, Ends s k ∧ v = pO (PL n (TS.iter k s).fin.f) (PL n (TS.iter k s).fin.g)
theorem fin_pos {s : TS} (h : ¬ s.p < 0) : s.fin = s := by unfold TS.fin; rw [if_neg h]
theorem fin_neg {s : TS} (h : s.p < 0) : s.fin.f = s.f' ∧ s.fin.g = s.g' := by unfold TS.fin; rw [if_pos h]; exact ⟨rfl, rfl⟩
theorem toward_ct (hS : OldO S) {n : Nat} {s0 : TS} (h0 : 0 < n) (hn : n ≤ 1000) (hok : s0.Ok n) (hp : s0.p.natAbs ≤ 1000) (hq : s0.q.natAbs ≤ 1000) : Ct (ctx.plus S) 101 [pO (PL n s0.f) (PL n s0.g), pn s0.p, pn s0.q] 2100000 fun v => TowP s0 n v := by
  refine ct_of (hS 101 (by decide)) fn101 ?_
  refine ⟨by omega, by omega, ?_⟩
  refine ⟨by kernel_rfl, ?_⟩
  refine ⟨_, rfl, rfl, ?_⟩
  refine callq rfl (clone_ct S hS (by rw [PL_len]; omega) (PL_ne h0)) (by omega) ?_
  rintro _ rfl
  refine ⟨_, rfl, rfl, ?_⟩
  refine callq rfl (clone_ct S hS (by rw [PL_len]; omega) (PL_ne h0)) (by omega) ?_
  rintro _ rfl
  refine partc rfl ⟨_, rfl, ?_⟩
  refine ⟨_, _, rfl, ⟨rfl, Nat.le_refl 2, rfl⟩, _, rfl, _, rfl, ?_⟩
  refine ⟨fun m s => ∃ (j b : Nat) (st : TS) (T : List PV), s = ⟨T, [.live 24 [pIs (PL n st.f), pIs (PL n st.g)], .live 24 [.lst 0 [], .lst 0 []]], b⟩ ∧ Gt T 43 [(1, pn st.p), (2, pn st.q), (3, .optr 0 0), (6, .optr 1 0)] ∧ m = st.q.natAbs ∧ b + 2020 * st.q.natAbs ≤ 2020100 ∧ st.p.natAbs ≤ 1000 ∧ st.q.natAbs ≤ 1000 ∧ Hid (st = TS.iter j s0 ∧ st.Ok n ∧ ∀ j', j' < j → (TS.iter j' s0).q ≠ 0), ⟨_, ci ⟨0, 8, s0, _, rfl, ⟨rfl, rfl, rfl, rfl, rfl, trivial⟩, rfl, by omega, hp, hq, ⟨rfl, hok, fun j' h => by omega⟩⟩⟩, ?_⟩
  rintro m s ⟨j, b, st, T, rfl, hT, hm, hb, hp', hq', hh⟩
  obtain ⟨J, rfl⟩ := gt_open hT
  clear hT
  have hokst := hh.h.2.1
  refine ⟨fun hne => ?_, fun heq => ?_⟩
  · obtain ⟨b1, b2, b3⟩ := step_q hne hp' hq'
    refine callq rfl (floor_ct S hS hne hp' hq') (by omega) ?_
    rintro _ rfl
    refine ⟨_, rfl, ?_⟩
    refine callq rfl (sheared_ct S hS hn hokst.pr hokst.pu b1) (by omega) ?_
    rintro _ rfl
    refine ⟨_, _, rfl, ⟨rfl, Nat.le_refl 2, rfl⟩, _, rfl, _, rfl, ?_⟩
    refine ⟨⟨by omega, by omega⟩, ?_⟩
    refine ⟨⟨by omega, by omega⟩, ?_⟩
    refine ⟨by kernel_rfl, ?_⟩
    refine ⟨_, rfl, rfl, ?_⟩
    refine ⟨_, rfl, rfl, ?_⟩
    refine callq rfl (inverse_ct S hS hokst.pr (by omega)) (by omega) ?_
    rintro _ rfl
    refine ⟨_, _, rfl, ⟨rfl, (show 1 ≤ 2 by omega), rfl⟩, _, rfl, _, rfl, ?_⟩
    refine ⟨_, _, rfl, ⟨rfl, (show 2 ≤ 2 by omega), rfl⟩, _, rfl, _, rfl, ?_⟩
    refine ⟨⟨by omega, by omega⟩, ?_⟩
    exact ⟨(st.p - floorZ st.p st.q * st.q).natAbs, by omega, ci ⟨j + 1, _, st.step, _, rfl, ⟨rfl, rfl, by show pn _ = pn (-_); congr 1; omega, rfl, rfl, trivial⟩, by show _ = (-_ : Int).natAbs; omega, by show _ + 2020 * (-_ : Int).natAbs ≤ _; omega, hq', by show (-_ : Int).natAbs ≤ _; omega, ⟨by rw [hh.h.1]; rfl, hokst.step, fun j' hj => by
      by_cases hjj : j' = j
      · subst hjj; rw [← hh.h.1]; exact hne
      · exact hh.h.2.2 j' (by omega)⟩⟩⟩
  · have hend : Ends s0 j := ⟨hh.h.2.2, by rw [← hh.h.1]; exact heq⟩
    refine ⟨fun hneg => ?_, fun hpos => ?_⟩
    · refine ⟨_, rfl, ?_⟩
      refine callq rfl (turned_ct S hS hn hokst.pr hokst.pu) (by omega) ?_
      rintro _ rfl
      refine ⟨_, _, rfl, ⟨rfl, Nat.le_refl 2, rfl⟩, _, rfl, _, rfl, ?_⟩
      obtain ⟨e1, e2⟩ := fin_neg hneg
      exact ⟨_, rfl, endq rfl ⟨j, hend, by rw [← hh.h.1, e1, e2]; rfl⟩⟩
    · refine ⟨_, rfl, ?_⟩
      refine ⟨_, _, rfl, ⟨rfl, Nat.le_refl 2, rfl⟩, _, rfl, _, rfl, ?_⟩
      exact ⟨_, rfl, endq rfl ⟨j, hend, by rw [← hh.h.1, fin_pos (by omega)]; rfl⟩⟩
end Go.PI
/- DIRECTIONS: of the reference; the law. -/
open Go.Proofs
namespace Go.PI
open IM
set_option maxRecDepth 10000
set_option maxHeartbeats 4000000
variable (S : FuncId → Option (List AV → Heap → Option (AV × Heap)))
theorem fn58 : ctx.fn 58 = some c58 := by kernel_rfl
/-- the quotient, as the reference makes it -/
theorem rtoward_ct (hS : OldO S) {n : Nat} {s0 : TS} (hn : n ≤ 60) (hok : s0.Ok n) (hp : s0.p.natAbs ≤ 1000) (hq : s0.q.natAbs ≤ 1000) : Ct (ctx.plus S) 58 [pO (PL n s0.f) (PL n s0.g), pn s0.p, pn s0.q] 500001000 fun v => TowP s0 n v := by
  refine ct_of (hS 58 (by decide)) fn58 ?_
  refine ⟨by omega, by omega, ?_⟩
  refine ⟨fun m s => ∃ (j b : Nat) (st : TS) (T : List PV), s = ⟨T, [.live 24 [pIs (PL n st.f), pIs (PL n st.g)], .live 24 [.lst 0 [], .lst 0 []]], b⟩ ∧ Gt T 65 [(1, pn st.p), (2, pn st.q), (3, .optr 0 0), (6, .optr 1 0)] ∧ m = st.q.natAbs ∧ b + 500000 * st.q.natAbs ≤ 500000100 ∧ st.p.natAbs ≤ 1000 ∧ st.q.natAbs ≤ 1000 ∧ Hid (st = TS.iter j s0 ∧ st.Ok n ∧ ∀ j', j' < j → (TS.iter j' s0).q ≠ 0), ⟨_, ci ⟨0, 2, s0, _, rfl, ⟨rfl, rfl, rfl, rfl, rfl, trivial⟩, rfl, by omega, hp, hq, ⟨rfl, hok, fun j' h => by omega⟩⟩⟩, ?_⟩
  rintro m s ⟨j, b, st, T, rfl, hT, hm, hb, hp', hq', hh⟩
  obtain ⟨J, rfl⟩ := gt_open hT
  clear hT
  have hokst := hh.h.2.1
  refine ⟨fun hne => ?_, fun heq => ?_⟩
  · obtain ⟨b1, b2, b3⟩ := step_q hne hp' hq'
    refine callq rfl (abs_ct S hS (by omega)) (by omega) ?_
    rintro _ rfl
    have hqa : (0 : Int) < (st.q.natAbs : Nat) := by omega
    refine callq rfl (rfloor_ct S hS (p := st.p) (q := (st.q.natAbs : Nat)) hqa hp' (by omega) (floor_ex (by omega))) (by omega) ?_
    rintro _ rfl
    obtain ⟨K, hK0⟩ : ∃ K, floorZ st.p st.q = K := ⟨_, rfl⟩
    rw [hK0] at b1 b2 b3
    obtain ⟨stf, hst⟩ : ∃ stf, (0 < K ∧ stf = st.f) ∨ (K ≤ 0 ∧ stf = st.f') := by
      by_cases h : 0 < K
      · exact ⟨_, .inl ⟨h, rfl⟩⟩
      · exact ⟨_, .inr ⟨by omega, rfl⟩⟩
    obtain ⟨stf', hstP⟩ : ∃ stf', IsP n stf stf' := by
      rcases hst with ⟨-, rfl⟩ | ⟨-, rfl⟩
      · exact ⟨_, hokst.pr⟩
      · exact ⟨_, hokst.pr.inv⟩
    refine ⟨fun hneg => ?_, fun hpos => ?_⟩
    · refine ⟨⟨by omega, by omega⟩, ?_⟩
      refine ⟨⟨by omega, by omega⟩, ?_⟩
      refine callq rfl (rfloor_ct S hS (p := 0 - st.p) (q := 0 - st.q) (by omega) (by omega) (by omega) (floor_ex (by omega))) (by omega) ?_
      rintro _ rfl
      have hfz : floorZ (0 - st.p) (0 - st.q) = K := by
        rw [show 0 - st.p = -st.p by omega, show 0 - st.q = -st.q by omega, floor_neg hneg, hK0]
      rw [hfz]
      refine ⟨_, rfl, ?_⟩
      refine ⟨fun m s => ∃ (i b' : Nat) (T : List PV), s = ⟨T, [.live 24 [pIs (PL n st.f), pIs (PL n st.g)], .live 24 [.lst 0 [], .lst 0 []]], b'⟩ ∧ Gt T 65 [(1, pn st.p), (2, pn st.q), (3, .optr 0 0), (6, .optr 1 0), (7, pn K), (8, pIs (PL n fun x => it stf i (st.g x))), (9, pn i)] ∧ m = K.natAbs - i ∧ i ≤ K.natAbs ∧ b' ≤ b + 240 * i, ⟨_, ci ⟨0, b, _, rfl, ⟨rfl, rfl, rfl, rfl, rfl, rfl, rfl, rfl, trivial⟩, rfl, Nat.zero_le _, by omega⟩⟩, ?_⟩
      rintro m2 s ⟨i, b', T, rfl, hT, hm2, hi, hb'⟩
      obtain ⟨J, rfl⟩ := gt_open hT
      clear hT
      refine callq rfl (abs_ct S hS (by omega)) (by omega) ?_
      rintro _ rfl
      refine ⟨fun hlt => ?_, fun hge => ?_⟩
      · have hup : ∀ x, x < n → it stf i (st.g x) < n := fun x hx => it_lt hstP (hokst.pu.lt x hx) i
        refine ⟨fun hK => ?_, fun hK => ?_⟩
        · obtain rfl : stf = st.f := by rcases hst with h | h; exact h.2; omega
          refine ⟨_, rfl, ?_⟩
          refine callq rfl (after_ct S hS (f := fun x => it st.f i (st.g x)) (g := st.f) hup (by omega)) (by omega) ?_
          rintro _ rfl
          refine ⟨⟨by omega, by omega⟩, ?_⟩
          exact ⟨_, by omega, ci ⟨i + 1, _, _, rfl, ⟨rfl, rfl, rfl, rfl, rfl, rfl, rfl, rfl, trivial⟩, rfl, by omega, by omega⟩⟩
        · obtain rfl : stf = st.f' := by rcases hst with h | h; omega; exact h.2
          refine ⟨_, rfl, ?_⟩
          refine callq rfl (rinverse_ct S hS hokst.pr (by omega)) (by omega) ?_
          rintro _ rfl
          refine callq rfl (after_ct S hS (f := fun x => it st.f' i (st.g x)) (g := st.f') hup (by omega)) (by omega) ?_
          rintro _ rfl
          refine ⟨⟨by omega, by omega⟩, ?_⟩
          exact ⟨_, by omega, ci ⟨i + 1, _, _, rfl, ⟨rfl, rfl, rfl, rfl, rfl, rfl, rfl, rfl, trivial⟩, rfl, by omega, by omega⟩⟩
      · have hiK : i = K.natAbs := by omega
        have e : (fun x => it stf i (st.g x)) = fun x => shf st.f st.f' K (st.g x) := by
          funext x
          unfold shf
          rcases hst with ⟨h, rfl⟩ | ⟨h, rfl⟩
          · rw [if_pos (by omega), hiK, show K.natAbs = K.toNat by omega]
          · by_cases hz : K = 0
            · rw [if_pos (by omega), hiK, hz]; rfl
            · rw [if_neg (by omega), hiK, show K.natAbs = (-K).toNat by omega]
        have e' : (fun x => it stf i (st.g x)) = st.step.f := by
          rw [e]
          show (fun x => shf st.f st.f' K (st.g x)) = fun x => shf st.f st.f' (floorZ st.p st.q) (st.g x)
          rw [hK0]
        have hsq : st.step.q = 0 - (st.p - K * st.q) := by
          show -(st.p - floorZ st.p st.q * st.q) = _
          rw [hK0]
          omega
        rw [e']
        refine ⟨⟨by omega, by omega⟩, ?_⟩
        refine ⟨⟨by omega, by omega⟩, ?_⟩
        refine ⟨_, rfl, ?_⟩
        refine callq rfl (rinverse_ct S hS hokst.pr (by omega)) (by omega) ?_
        rintro _ rfl
        refine partc rfl ⟨_, rfl, ?_⟩
        refine ⟨_, _, rfl, ⟨rfl, Nat.le_refl 2, rfl⟩, _, rfl, _, rfl, ?_⟩
        refine ⟨⟨by omega, by omega⟩, ?_⟩
        exact ⟨(st.p - K * st.q).natAbs, by omega, ci ⟨j + 1, _, st.step, _, rfl, ⟨rfl, rfl, by rw [hsq]; rfl, rfl, rfl, trivial⟩, by rw [hsq]; omega, by rw [hsq]; omega, hq', by rw [hsq]; omega, ⟨by rw [hh.h.1]; rfl, hokst.step, fun j' hj => by
          by_cases hjj : j' = j
          · subst hjj; rw [← hh.h.1]; exact hne
          · exact hh.h.2.2 j' (by omega)⟩⟩⟩
    · have hfz : floorZ st.p (st.q.natAbs : Nat) = K := by
        rw [show ((st.q.natAbs : Nat) : Int) = st.q by omega, hK0]
      rw [hfz]
      refine ⟨_, rfl, ?_⟩
      refine ⟨fun m s => ∃ (i b' : Nat) (T : List PV), s = ⟨T, [.live 24 [pIs (PL n st.f), pIs (PL n st.g)], .live 24 [.lst 0 [], .lst 0 []]], b'⟩ ∧ Gt T 65 [(1, pn st.p), (2, pn st.q), (3, .optr 0 0), (6, .optr 1 0), (7, pn K), (8, pIs (PL n fun x => it stf i (st.g x))), (9, pn i)] ∧ m = K.natAbs - i ∧ i ≤ K.natAbs ∧ b' ≤ b + 240 * i, ⟨_, ci ⟨0, b, _, rfl, ⟨rfl, rfl, rfl, rfl, rfl, rfl, rfl, rfl, trivial⟩, rfl, Nat.zero_le _, by omega⟩⟩, ?_⟩
      rintro m2 s ⟨i, b', T, rfl, hT, hm2, hi, hb'⟩
      obtain ⟨J, rfl⟩ := gt_open hT
      clear hT
      refine callq rfl (abs_ct S hS (by omega)) (by omega) ?_
      rintro _ rfl
      refine ⟨fun hlt => ?_, fun hge => ?_⟩
      · have hup : ∀ x, x < n → it stf i (st.g x) < n := fun x hx => it_lt hstP (hokst.pu.lt x hx) i
        refine ⟨fun hK => ?_, fun hK => ?_⟩
        · obtain rfl : stf = st.f := by rcases hst with h | h; exact h.2; omega
          refine ⟨_, rfl, ?_⟩
          refine callq rfl (after_ct S hS (f := fun x => it st.f i (st.g x)) (g := st.f) hup (by omega)) (by omega) ?_
          rintro _ rfl
          refine ⟨⟨by omega, by omega⟩, ?_⟩
          exact ⟨_, by omega, ci ⟨i + 1, _, _, rfl, ⟨rfl, rfl, rfl, rfl, rfl, rfl, rfl, rfl, trivial⟩, rfl, by omega, by omega⟩⟩
        · obtain rfl : stf = st.f' := by rcases hst with h | h; omega; exact h.2
          refine ⟨_, rfl, ?_⟩
          refine callq rfl (rinverse_ct S hS hokst.pr (by omega)) (by omega) ?_
          rintro _ rfl
          refine callq rfl (after_ct S hS (f := fun x => it st.f' i (st.g x)) (g := st.f') hup (by omega)) (by omega) ?_
          rintro _ rfl
          refine ⟨⟨by omega, by omega⟩, ?_⟩
          exact ⟨_, by omega, ci ⟨i + 1, _, _, rfl, ⟨rfl, rfl, rfl, rfl, rfl, rfl, rfl, rfl, trivial⟩, rfl, by omega, by omega⟩⟩
      · have hiK : i = K.natAbs := by omega
        have e : (fun x => it stf i (st.g x)) = fun x => shf st.f st.f' K (st.g x) := by
          funext x
          unfold shf
          rcases hst with ⟨h, rfl⟩ | ⟨h, rfl⟩
          · rw [if_pos (by omega), hiK, show K.natAbs = K.toNat by omega]
          · by_cases hz : K = 0
            · rw [if_pos (by omega), hiK, hz]; rfl
            · rw [if_neg (by omega), hiK, show K.natAbs = (-K).toNat by omega]
        have e' : (fun x => it stf i (st.g x)) = st.step.f := by
          rw [e]
          show (fun x => shf st.f st.f' K (st.g x)) = fun x => shf st.f st.f' (floorZ st.p st.q) (st.g x)
          rw [hK0]
        have hsq : st.step.q = 0 - (st.p - K * st.q) := by
          show -(st.p - floorZ st.p st.q * st.q) = _
          rw [hK0]
          omega
        rw [e']
        refine ⟨⟨by omega, by omega⟩, ?_⟩
        refine ⟨⟨by omega, by omega⟩, ?_⟩
        refine ⟨_, rfl, ?_⟩
        refine callq rfl (rinverse_ct S hS hokst.pr (by omega)) (by omega) ?_
        rintro _ rfl
        refine partc rfl ⟨_, rfl, ?_⟩
        refine ⟨_, _, rfl, ⟨rfl, Nat.le_refl 2, rfl⟩, _, rfl, _, rfl, ?_⟩
        refine ⟨⟨by omega, by omega⟩, ?_⟩
        exact ⟨(st.p - K * st.q).natAbs, by omega, ci ⟨j + 1, _, st.step, _, rfl, ⟨rfl, rfl, by rw [hsq]; rfl, rfl, rfl, trivial⟩, by rw [hsq]; omega, by rw [hsq]; omega, hq', by rw [hsq]; omega, ⟨by rw [hh.h.1]; rfl, hokst.step, fun j' hj => by
          by_cases hjj : j' = j
          · subst hjj; rw [← hh.h.1]; exact hne
          · exact hh.h.2.2 j' (by omega)⟩⟩⟩
  · have hend : Ends s0 j := ⟨hh.h.2.2, by rw [← hh.h.1]; exact heq⟩
    refine ⟨fun hneg => ?_, fun hpos => ?_⟩
    · refine ⟨by kernel_rfl, ?_⟩
      refine ⟨_, rfl, rfl, ?_⟩
      refine callq rfl (rinverse_ct S hS hokst.pr (by omega)) (by omega) ?_
      rintro _ rfl
      refine ⟨_, rfl, rfl, ?_⟩
      refine callq rfl (rinverse_ct S hS hokst.pu (by omega)) (by omega) ?_
      rintro _ rfl
      refine partc rfl ⟨_, rfl, ?_⟩
      refine ⟨_, _, rfl, ⟨rfl, Nat.le_refl 2, rfl⟩, _, rfl, _, rfl, ?_⟩
      refine ⟨_, rfl, ?_⟩
      refine ⟨_, _, rfl, ⟨rfl, Nat.le_refl 2, rfl⟩, _, rfl, _, rfl, ?_⟩
      obtain ⟨e1, e2⟩ := fin_neg hneg
      exact ⟨_, rfl, endq rfl ⟨j, hend, by rw [← hh.h.1, e1, e2]; rfl⟩⟩
    · refine ⟨_, rfl, ?_⟩
      refine ⟨_, _, rfl, ⟨rfl, Nat.le_refl 2, rfl⟩, _, rfl, _, rfl, ?_⟩
      exact ⟨_, rfl, endq rfl ⟨j, hend, by rw [← hh.h.1, fin_pos (by omega)]; rfl⟩⟩
end Go.PI
