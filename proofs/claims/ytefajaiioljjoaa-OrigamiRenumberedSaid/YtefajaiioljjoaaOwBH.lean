/- Own work of the verifier: OtF. -/
import Derived.Test.YtefajaiioljjoaaOwBG
import Derived.Test.YtefajaiioljjoaaOwAV
import Derived.Test.YtefajaiioljjoaaOwBE
set_option linter.all false
set_option exponentiation.threshold 3000
set_option linter.deprecated false
/- PERIODS, of the program. -/
open Go.Proofs
namespace Go.PI
open IM
set_option maxRecDepth 10000
set_option maxHeartbeats 4000000
variable (S : FuncId → Option (List AV → Heap → Option (AV × Heap)))
def pP (p : Int × Int) : PV := .agg [pn p.1, pn p.2]
def EsP (es : List (Int × PV)) (Pl : Plc) : Prop := ∀ y : Nat, pmapGet es y = (Pl y).map pP
theorem esP_upd {es : List (Int × PV)} {Pl : Plc} {z : Nat} {p : Int × Int} (h : EsP es Pl) : EsP (pmapSet es z (pP p)) (updP Pl z p) := fun y => by
  rw [get_set_map]
  unfold updP
  by_cases e : y = z
  · subst e; rw [if_pos rfl, if_pos rfl]; rfl
  · rw [if_neg (by omega), if_neg e]; exact h y
theorem fn94 : ctx.fn 94 = some c94 := by kernel_rfl
structure PS (r u : List Int) (σ : List StB) (es : List (Int × PV)) (A B C : Int) : Prop where
  s0 : σ[0]? = some (.live 24 [pIs r, pIs u])
  s1 : σ[1]? = some (.live 60 [pn 0, pn 0, pn 0])
  s2 : σ[2]? = some (.live 120 [pn 1, pn 0, pn 0, pn 1])
  s3 : σ[3]? = some (.mp .i64 es)
  s4 : σ[4]? = some (.live 60 [pn A, pn B, pn C])
theorem PS.keep {r u : List Int} {σ σ' : List StB} {es : List (Int × PV)} {A B C : Int} (h : PS r u σ es A B C) (k : ∀ (i : Nat) (b : StB), i < 5 → σ[i]? = some b → σ'[i]? = some b) : PS r u σ' es A B C :=
  ⟨k _ _ (by omega) h.s0, k _ _ (by omega) h.s1, k _ _ (by omega) h.s2, k _ _ (by omega) h.s3, k _ _ (by omega) h.s4⟩
theorem periods_ct (hS : OldO S) {r u : List Int} {n : Nat} {f f' g g' : Nat → Nat} (ho : IsO r u n f f' g g') (hcn : Conn n f g) (hn : n ≤ 30) :
    Ct (ctx.plus S) 94 [pO r u] 2000 fun w => ∃ A B C px py, w = lat A B C ∧ NFm A B C ∧ Per f f' g g' A B C ∧ Edg n f g px py A B C := by
  have h0 := ho.pos
  have hl := ho.l1
  refine ct_of (hS 94 (by decide)) fn94 ?_
  refine ⟨by omega, by omega, ?_⟩
  refine ⟨_, rfl, ?_⟩
  refine ⟨_, rfl, ?_⟩
  refine ⟨_, rfl, ?_⟩
  refine ⟨by omega, ?_⟩
  refine ⟨_, _, rfl, ⟨rfl, Nat.le_of_ble_eq_true rfl, rfl⟩, _, rfl, _, rfl, ?_⟩
  refine ⟨by omega, ?_⟩
  refine ⟨_, rfl, ?_⟩
  refine ⟨[], _, ⟨rfl, rfl⟩, rfl, _, rfl, ?_⟩
  refine ⟨by omega, ?_⟩
  refine ⟨by omega, partc rfl ⟨_, rfl, ?_⟩⟩
  have hE0 : EsP (pmapSet [] 0 (.agg [pn 0, pn 0])) (updP (fun _ => none) 0 (0, 0)) := esP_upd (es := []) (Pl := fun _ => none) (z := 0) (p := (0, 0)) fun _ => rfl
  have hM0 : PM n f f' g g' [] [0] (updP (fun _ => none) 0 (0, 0)) 0 0 0 := PM.start h0
  refine ⟨fun q s' => ∃ (P Q : List Nat) (Pl : Plc) (A B C : Int) (es : List (Int × PV)) (v : PV) (σ : List StB) (b : Nat) (T : List PV), s' = ⟨T, σ, b⟩ ∧ Gt T 82 [(1, .optr 0 0), (2, .optr 1 0), (3, .optr 2 0), (4, .omap 3), (5, .optr 4 0), (6, v)] ∧ q = n - P.length ∧ b ≤ 10 + 40 * P.length ∧ Hid (PM n f f' g g' P Q Pl A B C ∧ EsP es Pl ∧ PS r u σ es A B C ∧ Qu v σ (NL Q) ∧ ∀ q, q < 5 → blkQ v ≠ some q), ⟨_, ci ⟨[], [0], _, 0, 0, 0, _, _, _, _, _, rfl, ⟨rfl, rfl, rfl, rfl, rfl, rfl, rfl, trivial⟩, rfl, by simp, ⟨hM0, hE0, ⟨rfl, rfl, rfl, rfl, rfl⟩, ⟨5, 0, [pn 0], rfl, Nat.le_refl 1, rfl, .inl rfl⟩, fun q hq => ?_⟩⟩⟩, ?_⟩
  · show some 5 ≠ some q
    intro e; have := Option.some.inj e; omega
  clear hE0 hM0
  rintro _ s' ⟨P, Q, Pl, A, B, C, es, v, σ, b, T, rfl, hT, rfl, hb, hh⟩
  obtain ⟨J, rfl⟩ := gt_open hT
  clear hT
  obtain ⟨hM, hEs, hPS, hQ, v0⟩ := hh.h
  clear hh
  have hlen := hM.len
  have hpl : P.length + Q.length ≤ n := by rw [List.length_append] at hlen; exact hlen
  obtain ⟨j, o, cs, h1, h2, h3, h4⟩ := hQ
  rcases h4 with rfl | ⟨rfl, rfl⟩ | rfl
  all_goals
    refine ⟨fun hlt => ?_, fun hge => ?_⟩
    · obtain ⟨w, Q', rfl⟩ : ∃ a Q', Q = a :: Q' := by
        cases Q with
        | nil => exact absurd hlt (by decide)
        | cons a Q' => exact ⟨a, Q', rfl⟩
      have hv0 : cs[_]? = some (pn (w : Int)) := (by
        have := congrArg (fun l => l[0]?) h3
        simpa [NL, List.getElem?_take, List.getElem?_drop] using this)
      have hwn := hM.lt w (by simp)
      obtain ⟨ps, hps⟩ := (hM.kn w).2 (by simp)
      have hes := hEs w
      rw [hps] at hes
      have hnl : (NL (w :: Q')).length = Q'.length + 1 := by rw [NL_len]; rfl
      refine ⟨⟨by omega, by rw [hnl]; omega⟩, ?_⟩
      refine ⟨_, load_k rfl rfl (contOf_live h1) hv0 rfl, ?_⟩
      refine ⟨es, ⟨rfl, hPS.s3⟩, fun w' hw' => ?_, fun hw' => by rw [hes] at hw'; cases hw'⟩
      have hw2 : w' = pP ps := by rw [hes] at hw'; exact (Option.some.inj hw').symm
      subst hw2
      have hjl := (List.getElem?_eq_some_iff.1 h1).1
      have h5 := (List.getElem?_eq_some_iff.1 hPS.s4).1
      refine ⟨by omega, ?_⟩
      refine ⟨_, _, push_get, ⟨rfl, Nat.le_of_ble_eq_true rfl, rfl⟩, _, rfl, _, push_set, ?_⟩
      refine ⟨by kernel_rfl, ?_⟩
      refine ⟨_, load_c (contOf_live (push_old hPS.s0)) rfl rfl, rfl, ?_⟩
      refine ⟨⟨by omega, by rw [hnl]; omega⟩, ?_⟩
      refine ⟨_, load_k rfl rfl (contOf_live (push_old h1)) hv0 rfl, rfl, ?_⟩
      refine callq rfl (neighbours_ct S hS ho hwn) (by omega) ?_
      rintro _ rfl
      obtain ⟨L, hLe⟩ : ∃ L, L = σ.length := ⟨_, rfl⟩
      refine ⟨fun q s' => ∃ (k : Nat) (Q : List Nat) (Pl : Plc) (A B C : Int) (es : List (Int × PV)) (v : PV) (σ : List StB) (b : Nat) (T : List PV), s' = ⟨T, σ, b⟩ ∧ Gt T 82 [(1, .optr 0 0), (2, .optr 1 0), (3, .optr 2 0), (4, .omap 3), (5, .optr 4 0), (6, v), (7, .optr L 0), (34, .agg [pn (f w), pn (g w)]), (35, pn k)] ∧ q = 2 - k ∧ k ≤ 2 ∧ b ≤ 15 + 40 * P.length + 12 * k ∧ Hid (PM n f f' g g' P (w :: Q) Pl A B C ∧ EsP es Pl ∧ PS r u σ es A B C ∧ (Qu v σ (NL (w :: Q)) ∧ ∀ q, q < 5 ∨ q = L → blkQ v ≠ some q) ∧ σ[L]? = some (.live 107 [pn ps.1, pn ps.2]) ∧ Pl w = some ps ∧ (1 ≤ k → EdK f g Pl A B C true w) ∧ (2 ≤ k → EdK f g Pl A B C false w)), ⟨_, ci ⟨0, Q', Pl, A, B, C, es, _, _, _, _, rfl, ⟨rfl, rfl, rfl, rfl, rfl, rfl, rfl, by rw [hLe]; rfl, rfl, rfl, trivial⟩, rfl, Nat.zero_le _, by omega, ⟨hM, hEs, hPS.keep fun i b _ hb => push_old hb, ⟨⟨j, _, cs, push_old h1, h2, h3, by first | exact .inl rfl | exact .inr (.inl ⟨rfl, rfl⟩) | exact .inr (.inr rfl)⟩, fun q hq e => ?_⟩, push_get' hLe, hps, (fun h => by omega), fun h => by omega⟩⟩⟩, ?_⟩
      · rcases hq with hq | hq
        · exact v0 q hq e
        · have e : some j = some q := e
          have := Option.some.inj e; omega
      have hL5 : 5 ≤ L := by omega
      clear hM hEs hPS h1 h2 h3 v0 hv0 hlt hes hps hw' hb hlen hpl hnl hjl h5 hLe
      rintro _ s' ⟨k, Q, Pl, A, B, C, es, v, σ, b, T, rfl, hT, rfl, hk, hb, hh⟩
      obtain ⟨J, rfl⟩ := gt_open hT
      clear hT
      obtain ⟨hM, hEs, hPS, ⟨hQ, v0⟩, sL, hps, hk1, hk2⟩ := hh.h
      clear hh
      have hlen := hM.len
      have hpl : P.length + (Q.length + 1) ≤ n := by rw [List.length_append] at hlen; exact hlen
      have hpb := hM.bd w ps hps
      have lL := (List.getElem?_eq_some_iff.1 sL).1
      refine ⟨fun hlt => ?_, fun hge => ?_⟩
      · rcases (show k = 0 ∨ k = 1 by omega) with rfl | rfl
        · have hz1 : nbE f g true w = (f w) := rfl
          have hde := dE_pos true
          refine ⟨⟨by omega, by omega⟩, _, rfl, ?_⟩
          refine ⟨by kernel_rfl, ?_⟩
          refine ⟨⟨by omega, by omega⟩, ?_⟩
          refine ⟨_, load_k rfl rfl (contOf_live sL) (show [pn ps.1, pn ps.2][0]? = some (pn ps.1) from rfl) rfl, rfl, ?_⟩
          refine ⟨⟨by omega, by omega⟩, ?_⟩
          refine ⟨⟨by omega, by omega⟩, ?_⟩
          refine ⟨_, load_k rfl rfl (contOf_live hPS.s2) (show [pn 1, pn 0, pn 0, pn 1][0]? = some (pn (dxE true)) from rfl) rfl, rfl, ?_⟩
          refine ⟨by unfold In64; omega, ?_⟩
          refine ⟨⟨by omega, by omega⟩, ?_⟩
          refine ⟨_, load_k rfl rfl (contOf_live sL) (show [pn ps.1, pn ps.2][1]? = some (pn ps.2) from rfl) rfl, rfl, ?_⟩
          refine ⟨⟨by omega, by omega⟩, ?_⟩
          refine ⟨⟨by omega, by omega⟩, ?_⟩
          refine ⟨_, load_k rfl rfl (contOf_live hPS.s2) (show [pn 1, pn 0, pn 0, pn 1][1]? = some (pn (dyE true)) from rfl) rfl, rfl, ?_⟩
          refine ⟨by unfold In64; omega, ?_⟩
          refine ⟨_, rfl, ?_⟩
          refine ⟨by omega, ?_⟩
          refine ⟨_, _, push_get, ⟨rfl, Nat.le_of_ble_eq_true rfl, rfl⟩, _, rfl, _, push_set, ?_⟩
          refine ⟨es, ⟨rfl, push_old hPS.s3⟩, fun w' hw' => ?_, fun hw' => ?_⟩
          · obtain ⟨pr, hpr, rfl⟩ : ∃ pr, Pl (nbE f g true w) = some pr ∧ w' = pP pr := by
              have h1 := (hEs (nbE f g true w)).symm.trans hw'
              cases hc : Pl (nbE f g true w) with
              | none => rw [hc] at h1; cases h1
              | some q => rw [hc] at h1; exact ⟨q, rfl, (Option.some.inj h1).symm⟩
            have hqb := hM.bd _ pr hpr
            obtain ⟨d1, d2⟩ := hM.diff hn (e := true) hps hpr
            refine ⟨by omega, ?_⟩
            refine ⟨_, _, push_get, ⟨rfl, Nat.le_of_ble_eq_true rfl, rfl⟩, _, rfl, _, push_set, ?_⟩
            refine ⟨_, load_c (contOf_live (push_old (push_old hPS.s4))) rfl rfl, ?_⟩
            refine ⟨⟨by omega, by omega⟩, ?_⟩
            refine ⟨_, load_k rfl rfl (contOf_live (push_old push_get)) (show [pn (ps.1 + dxE true), pn (ps.2 + dyE true)][0]? = some (pn (ps.1 + dxE true)) from rfl) rfl, ?_⟩
            refine ⟨⟨by omega, by omega⟩, ?_⟩
            refine ⟨_, load_k rfl rfl (contOf_live push_get) (show [pn pr.1, pn pr.2][0]? = some (pn pr.1) from rfl) rfl, ?_⟩
            refine ⟨by unfold In64; omega, ?_⟩
            refine ⟨⟨by omega, by omega⟩, ?_⟩
            refine ⟨_, load_k rfl rfl (contOf_live (push_old push_get)) (show [pn (ps.1 + dxE true), pn (ps.2 + dyE true)][1]? = some (pn (ps.2 + dyE true)) from rfl) rfl, ?_⟩
            refine ⟨⟨by omega, by omega⟩, ?_⟩
            refine ⟨_, load_k rfl rfl (contOf_live push_get) (show [pn pr.1, pn pr.2][1]? = some (pn pr.2) from rfl) rfl, ?_⟩
            refine ⟨by unfold In64; omega, ?_⟩
            refine callq rfl (spanned_ct S hS hM.nf hM.bl d1 d2) (by omega) ?_
            rintro _ ⟨A', B', C', rfl, hN', hB', hs'⟩
            obtain ⟨hM2, hEd⟩ := hM.span ho.pr ho.pu h0 hps hpr hN' hB' hs'
            refine ⟨_, _, push_old (push_old hPS.s4), ⟨rfl, Nat.le_of_ble_eq_true rfl, rfl⟩, _, rfl, _, rfl, ?_⟩
            have kk : ∀ (x y z : StB) (i : Nat) (b : StB), i ≠ 4 → σ[i]? = some b → ((σ ++ [x] ++ [y]).set 4 z)[i]? = some b := fun x y z i b hi hb => by
              rw [List.getElem?_set_ne (by omega)]; exact push_old (push_old hb)
            have l4 := (List.getElem?_eq_some_iff.1 hPS.s4).1
            refine ⟨⟨by omega, by omega⟩, ?_⟩
            refine ⟨_, by omega, ci ⟨0 + 1, Q, Pl, A', B', C', es, v, _, _, _, rfl, ⟨rfl, rfl, rfl, rfl, rfl, rfl, rfl, rfl, rfl, rfl, trivial⟩, rfl, by omega, by omega, ⟨hM2, hEs, ⟨kk _ _ _ 0 _ (by omega) hPS.s0, kk _ _ _ 1 _ (by omega) hPS.s1, kk _ _ _ 2 _ (by omega) hPS.s2, kk _ _ _ 3 _ (by omega) hPS.s3, List.getElem?_set_self (by simp; omega)⟩, ⟨hQ.keep fun i b hi hb => kk _ _ _ i b (fun e => v0 4 (.inl (by omega)) (by rw [← e]; exact hi)) hb, v0⟩, kk _ _ _ L _ (by omega) sL, hps, fun _ => hEd, fun h => by omega⟩⟩⟩
          · have hz : Pl (nbE f g true w) = none := by
              have h1 := (hEs (nbE f g true w)).symm.trans hw'
              cases hc : Pl (nbE f g true w) with
              | none => rfl
              | some q => rw [hc] at h1; cases h1
            obtain ⟨hM2, hEd⟩ := hM.put ho.pr ho.pu (e := true) hps hz
            have l4 := (List.getElem?_eq_some_iff.1 hPS.s4).1
            refine ⟨by omega, ?_⟩
            refine ⟨_, _, push_get, ⟨rfl, Nat.le_of_ble_eq_true rfl, rfl⟩, _, rfl, _, push_set, ?_⟩
            refine ⟨_, load_c (contOf_live (push_old push_get)) rfl rfl, ?_⟩
            refine ⟨es, _, ⟨rfl, push_old (push_old hPS.s3)⟩, rfl, _, rfl, ?_⟩
            refine ⟨by omega, partc rfl ⟨_, rfl, ?_⟩⟩
            have kk : ∀ (x y z q : StB) (i : Nat) (b : StB), i ≠ 3 → σ[i]? = some b → ((σ ++ [x] ++ [y]).set 3 z ++ [q])[i]? = some b := fun x y z q i b hi hb => by
              refine push_old ?_
              rw [List.getElem?_set_ne (by omega)]; exact push_old (push_old hb)
            have k3 : ∀ (x y z q : StB), ((σ ++ [x] ++ [y]).set 3 z ++ [q])[3]? = some z := fun x y z q => push_old (List.getElem?_set_self (by simp; omega))
            refine appQ S (hQ.keep fun i b hi hb => kk _ _ _ _ i b (fun e => v0 3 (.inl (by omega)) (by rw [← e]; exact hi)) hb) (contOf_live push_get) (by rw [NL_len]; simp only [List.length_cons]; omega) (by omega) ?_
            intro v' σ' g1 g2 g3
            have hq1 : NL (w :: Q) ++ [(((f w) : Nat) : Int)] = NL (w :: (Q ++ [(f w)])) := by simp [NL]
            rw [hq1] at g1
            rw [List.length_append, List.length_set, List.length_append, List.length_append, List.length_singleton] at g3
            refine ⟨⟨by omega, by omega⟩, ?_⟩
            refine ⟨_, by omega, ci ⟨0 + 1, Q ++ [(f w)], updP Pl (f w) (ps.1 + dxE true, ps.2 + dyE true), A, B, C, pmapSet es (f w) (pP (ps.1 + dxE true, ps.2 + dyE true)), v', σ', _, _, rfl, ⟨rfl, rfl, rfl, rfl, rfl, rfl, rfl, rfl, rfl, rfl, trivial⟩, rfl, by omega, by omega, ⟨hM2, esP_upd hEs, ⟨g2 0 _ (v0 0 (.inl (by omega))) (kk _ _ _ _ 0 _ (by omega) hPS.s0), g2 1 _ (v0 1 (.inl (by omega))) (kk _ _ _ _ 1 _ (by omega) hPS.s1), g2 2 _ (v0 2 (.inl (by omega))) (kk _ _ _ _ 2 _ (by omega) hPS.s2), g2 3 _ (v0 3 (.inl (by omega))) (k3 _ _ _ _), g2 4 _ (v0 4 (.inl (by omega))) (kk _ _ _ _ 4 _ (by omega) hPS.s4)⟩, ⟨g1, fun q hq e => ?_⟩, g2 L _ (v0 L (.inr rfl)) (kk _ _ _ _ L _ (by omega) sL), upd_old hz hps, fun _ => hEd, fun h => by omega⟩⟩⟩
            rw [g3] at e; have := Option.some.inj e; omega
        · have hz1 : nbE f g false w = (g w) := rfl
          have hde := dE_pos false
          refine ⟨⟨by omega, by omega⟩, _, rfl, ?_⟩
          refine ⟨by kernel_rfl, ?_⟩
          refine ⟨⟨by omega, by omega⟩, ?_⟩
          refine ⟨_, load_k rfl rfl (contOf_live sL) (show [pn ps.1, pn ps.2][0]? = some (pn ps.1) from rfl) rfl, rfl, ?_⟩
          refine ⟨⟨by omega, by omega⟩, ?_⟩
          refine ⟨⟨by omega, by omega⟩, ?_⟩
          refine ⟨_, load_k rfl rfl (contOf_live hPS.s2) (show [pn 1, pn 0, pn 0, pn 1][2]? = some (pn (dxE false)) from rfl) rfl, rfl, ?_⟩
          refine ⟨by unfold In64; omega, ?_⟩
          refine ⟨⟨by omega, by omega⟩, ?_⟩
          refine ⟨_, load_k rfl rfl (contOf_live sL) (show [pn ps.1, pn ps.2][1]? = some (pn ps.2) from rfl) rfl, rfl, ?_⟩
          refine ⟨⟨by omega, by omega⟩, ?_⟩
          refine ⟨⟨by omega, by omega⟩, ?_⟩
          refine ⟨_, load_k rfl rfl (contOf_live hPS.s2) (show [pn 1, pn 0, pn 0, pn 1][3]? = some (pn (dyE false)) from rfl) rfl, rfl, ?_⟩
          refine ⟨by unfold In64; omega, ?_⟩
          refine ⟨_, rfl, ?_⟩
          refine ⟨by omega, ?_⟩
          refine ⟨_, _, push_get, ⟨rfl, Nat.le_of_ble_eq_true rfl, rfl⟩, _, rfl, _, push_set, ?_⟩
          refine ⟨es, ⟨rfl, push_old hPS.s3⟩, fun w' hw' => ?_, fun hw' => ?_⟩
          · obtain ⟨pr, hpr, rfl⟩ : ∃ pr, Pl (nbE f g false w) = some pr ∧ w' = pP pr := by
              have h1 := (hEs (nbE f g false w)).symm.trans hw'
              cases hc : Pl (nbE f g false w) with
              | none => rw [hc] at h1; cases h1
              | some q => rw [hc] at h1; exact ⟨q, rfl, (Option.some.inj h1).symm⟩
            have hqb := hM.bd _ pr hpr
            obtain ⟨d1, d2⟩ := hM.diff hn (e := false) hps hpr
            refine ⟨by omega, ?_⟩
            refine ⟨_, _, push_get, ⟨rfl, Nat.le_of_ble_eq_true rfl, rfl⟩, _, rfl, _, push_set, ?_⟩
            refine ⟨_, load_c (contOf_live (push_old (push_old hPS.s4))) rfl rfl, ?_⟩
            refine ⟨⟨by omega, by omega⟩, ?_⟩
            refine ⟨_, load_k rfl rfl (contOf_live (push_old push_get)) (show [pn (ps.1 + dxE false), pn (ps.2 + dyE false)][0]? = some (pn (ps.1 + dxE false)) from rfl) rfl, ?_⟩
            refine ⟨⟨by omega, by omega⟩, ?_⟩
            refine ⟨_, load_k rfl rfl (contOf_live push_get) (show [pn pr.1, pn pr.2][0]? = some (pn pr.1) from rfl) rfl, ?_⟩
            refine ⟨by unfold In64; omega, ?_⟩
            refine ⟨⟨by omega, by omega⟩, ?_⟩
            refine ⟨_, load_k rfl rfl (contOf_live (push_old push_get)) (show [pn (ps.1 + dxE false), pn (ps.2 + dyE false)][1]? = some (pn (ps.2 + dyE false)) from rfl) rfl, ?_⟩
            refine ⟨⟨by omega, by omega⟩, ?_⟩
            refine ⟨_, load_k rfl rfl (contOf_live push_get) (show [pn pr.1, pn pr.2][1]? = some (pn pr.2) from rfl) rfl, ?_⟩
            refine ⟨by unfold In64; omega, ?_⟩
            refine callq rfl (spanned_ct S hS hM.nf hM.bl d1 d2) (by omega) ?_
            rintro _ ⟨A', B', C', rfl, hN', hB', hs'⟩
            obtain ⟨hM2, hEd⟩ := hM.span ho.pr ho.pu h0 hps hpr hN' hB' hs'
            refine ⟨_, _, push_old (push_old hPS.s4), ⟨rfl, Nat.le_of_ble_eq_true rfl, rfl⟩, _, rfl, _, rfl, ?_⟩
            have kk : ∀ (x y z : StB) (i : Nat) (b : StB), i ≠ 4 → σ[i]? = some b → ((σ ++ [x] ++ [y]).set 4 z)[i]? = some b := fun x y z i b hi hb => by
              rw [List.getElem?_set_ne (by omega)]; exact push_old (push_old hb)
            have l4 := (List.getElem?_eq_some_iff.1 hPS.s4).1
            refine ⟨⟨by omega, by omega⟩, ?_⟩
            refine ⟨_, by omega, ci ⟨1 + 1, Q, Pl, A', B', C', es, v, _, _, _, rfl, ⟨rfl, rfl, rfl, rfl, rfl, rfl, rfl, rfl, rfl, rfl, trivial⟩, rfl, by omega, by omega, ⟨hM2, hEs, ⟨kk _ _ _ 0 _ (by omega) hPS.s0, kk _ _ _ 1 _ (by omega) hPS.s1, kk _ _ _ 2 _ (by omega) hPS.s2, kk _ _ _ 3 _ (by omega) hPS.s3, List.getElem?_set_self (by simp; omega)⟩, ⟨hQ.keep fun i b hi hb => kk _ _ _ i b (fun e => v0 4 (.inl (by omega)) (by rw [← e]; exact hi)) hb, v0⟩, kk _ _ _ L _ (by omega) sL, hps, fun _ => (hk1 (by omega)).mono hs', fun _ => hEd⟩⟩⟩
          · have hz : Pl (nbE f g false w) = none := by
              have h1 := (hEs (nbE f g false w)).symm.trans hw'
              cases hc : Pl (nbE f g false w) with
              | none => rfl
              | some q => rw [hc] at h1; cases h1
            obtain ⟨hM2, hEd⟩ := hM.put ho.pr ho.pu (e := false) hps hz
            have l4 := (List.getElem?_eq_some_iff.1 hPS.s4).1
            refine ⟨by omega, ?_⟩
            refine ⟨_, _, push_get, ⟨rfl, Nat.le_of_ble_eq_true rfl, rfl⟩, _, rfl, _, push_set, ?_⟩
            refine ⟨_, load_c (contOf_live (push_old push_get)) rfl rfl, ?_⟩
            refine ⟨es, _, ⟨rfl, push_old (push_old hPS.s3)⟩, rfl, _, rfl, ?_⟩
            refine ⟨by omega, partc rfl ⟨_, rfl, ?_⟩⟩
            have kk : ∀ (x y z q : StB) (i : Nat) (b : StB), i ≠ 3 → σ[i]? = some b → ((σ ++ [x] ++ [y]).set 3 z ++ [q])[i]? = some b := fun x y z q i b hi hb => by
              refine push_old ?_
              rw [List.getElem?_set_ne (by omega)]; exact push_old (push_old hb)
            have k3 : ∀ (x y z q : StB), ((σ ++ [x] ++ [y]).set 3 z ++ [q])[3]? = some z := fun x y z q => push_old (List.getElem?_set_self (by simp; omega))
            refine appQ S (hQ.keep fun i b hi hb => kk _ _ _ _ i b (fun e => v0 3 (.inl (by omega)) (by rw [← e]; exact hi)) hb) (contOf_live push_get) (by rw [NL_len]; simp only [List.length_cons]; omega) (by omega) ?_
            intro v' σ' g1 g2 g3
            have hq1 : NL (w :: Q) ++ [(((g w) : Nat) : Int)] = NL (w :: (Q ++ [(g w)])) := by simp [NL]
            rw [hq1] at g1
            rw [List.length_append, List.length_set, List.length_append, List.length_append, List.length_singleton] at g3
            refine ⟨⟨by omega, by omega⟩, ?_⟩
            refine ⟨_, by omega, ci ⟨1 + 1, Q ++ [(g w)], updP Pl (g w) (ps.1 + dxE false, ps.2 + dyE false), A, B, C, pmapSet es (g w) (pP (ps.1 + dxE false, ps.2 + dyE false)), v', σ', _, _, rfl, ⟨rfl, rfl, rfl, rfl, rfl, rfl, rfl, rfl, rfl, rfl, trivial⟩, rfl, by omega, by omega, ⟨hM2, esP_upd hEs, ⟨g2 0 _ (v0 0 (.inl (by omega))) (kk _ _ _ _ 0 _ (by omega) hPS.s0), g2 1 _ (v0 1 (.inl (by omega))) (kk _ _ _ _ 1 _ (by omega) hPS.s1), g2 2 _ (v0 2 (.inl (by omega))) (kk _ _ _ _ 2 _ (by omega) hPS.s2), g2 3 _ (v0 3 (.inl (by omega))) (k3 _ _ _ _), g2 4 _ (v0 4 (.inl (by omega))) (kk _ _ _ _ 4 _ (by omega) hPS.s4)⟩, ⟨g1, fun q hq e => ?_⟩, g2 L _ (v0 L (.inr rfl)) (kk _ _ _ _ L _ (by omega) sL), upd_old hz hps, fun _ => (hk1 (by omega)).upd hz, fun _ => hEd⟩⟩⟩
            rw [g3] at e; have := Option.some.inj e; omega
      · have hk2e : k = 2 := by omega
        subst hk2e
        have hM2 := hM.pop (hk1 (by omega)) (hk2 (by omega))
        have hnl : (NL (w :: Q)).length = Q.length + 1 := by rw [NL_len]; rfl
        obtain ⟨j, o, cs, h1, h2, h3, h4⟩ := hQ
        rcases h4 with rfl | ⟨rfl, rfl⟩ | rfl
        · refine ⟨Nat.le_refl _, ⟨by omega, by rw [hnl]; omega⟩, _, rfl, ?_⟩
          refine ⟨n - (P ++ [w]).length, by simp; omega, ci ⟨P ++ [w], Q, Pl, A, B, C, es, _, σ, b, _, rfl, ⟨rfl, rfl, rfl, rfl, rfl, rfl, rfl, trivial⟩, rfl, by simp; omega, ⟨hM2, hEs, hPS, Qu.tail (a := (w : Int)) (Q := NL Q) h1 h2 h3 (.inl ?_), fun q hq => v0 q (.inl hq)⟩⟩⟩
          rfl
        · refine ⟨rfl, ⟨by omega, by rw [hnl]; omega⟩, ?_⟩
          refine ⟨n - (P ++ [w]).length, by simp; omega, ci ⟨P ++ [w], Q, Pl, A, B, C, es, _, σ, b, _, rfl, ⟨rfl, rfl, rfl, rfl, rfl, rfl, rfl, trivial⟩, rfl, by simp; omega, ⟨hM2, hEs, hPS, Qu.tail (a := (w : Int)) (Q := NL Q) h1 h2 h3 (.inr ?_), fun q hq => v0 q (.inl hq)⟩⟩⟩
          rfl
        · refine ⟨rfl, ⟨by omega, by rw [hnl]; omega⟩, ?_⟩
          refine ⟨n - (P ++ [w]).length, by simp; omega, ci ⟨P ++ [w], Q, Pl, A, B, C, es, _, σ, b, _, rfl, ⟨rfl, rfl, rfl, rfl, rfl, rfl, rfl, trivial⟩, rfl, by simp; omega, ⟨hM2, hEs, hPS, Qu.tail (a := (w : Int)) (Q := NL Q) h1 h2 h3 (.inr ?_), fun q hq => v0 q (.inl hq)⟩⟩⟩
          rfl
    · have hqn : Q = [] := by
        cases Q with
        | nil => rfl
        | cons a Q' =>
          have hge : ((NL (a :: Q')).length : Int) ≤ 0 := hge
          rw [NL_len, List.length_cons] at hge
          omega
      subst hqn
      obtain ⟨px, py, hEd⟩ := hM.fin hcn h0
      refine ⟨_, load_c (contOf_live hPS.s4) rfl rfl, ?_⟩
      refine ⟨_, _, hPS.s1, ⟨rfl, Nat.le_of_ble_eq_true rfl, rfl⟩, _, rfl, _, rfl, ?_⟩
      refine ⟨_, load_c (contOf_live (List.getElem?_set_self (List.getElem?_eq_some_iff.1 hPS.s1).1)) rfl rfl, ?_⟩
      exact endq rfl ⟨A, B, C, px, py, rfl, hM.nf, hM.per, hEd⟩
end Go.PI
