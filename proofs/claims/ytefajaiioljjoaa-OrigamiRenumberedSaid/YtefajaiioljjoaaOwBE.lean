/- Own work of the verifier: OzC OzD OzE OzF OzG. -/
import Derived.Test.YtefajaiioljjoaaOwBD
import Derived.Test.YtefajaiioljjoaaOwAV
set_option linter.all false
set_option exponentiation.threshold 3000
set_option linter.deprecated false
/- A MAP OF SQUARES found by a queue, of the program. -/
open Go.Proofs
namespace Go.PI
open IM
set_option maxRecDepth 10000
set_option maxHeartbeats 4000000
variable (S : FuncId → Option (List AV → Heap → Option (AV × Heap)))
theorem push_get' {σ : List StB} {b : StB} {j : Nat} (h : j = σ.length) : (σ ++ [b])[j]? = some b := by subst h; simp
def blkQ : PV → Option Nat
  | .own j _ _ _ _ => some j
  | .ownu j _ _ => some j
  | .ownq j _ _ _ => some j
  | _ => none
def Qu (v : PV) (σ : List StB) (Q : List Int) : Prop :=
  ∃ j o cs, σ[j]? = some (.live 3 cs) ∧ o + Q.length ≤ cs.length ∧ (cs.drop o).take Q.length = Q.map pn ∧ (v = .own j o Q.length Q.length 1 ∨ (v = .ownu j Q.length 1 ∧ o = 0) ∨ v = .ownq j o Q.length 1)
theorem Qu.keep {v : PV} {σ σ' : List StB} {Q : List Int} (h : Qu v σ Q) (k : ∀ j b, blkQ v = some j → σ[j]? = some b → σ'[j]? = some b) : Qu v σ' Q := by
  obtain ⟨j, o, cs, h1, h2, h3, h4⟩ := h
  refine ⟨j, o, cs, k j _ ?_ h1, h2, h3, h4⟩
  rcases h4 with rfl | ⟨rfl, -⟩ | rfl <;> rfl
theorem appQ {c k : Nat} {v : PV} {Q : List Int} {z : Int} {i m : Nat} {ty : TypeId} {σ : List StB} {K : PV → List StB → Nat → Prop} (hg : Qu v σ Q) (hx : contOf σ i = some (ty, [pn z])) (hl : Q.length ≤ 1000000) (hk : k < c)
    (hK : ∀ v' σ', Qu v' σ' (Q ++ [z]) → (∀ j b, blkQ v ≠ some j → σ[j]? = some b → σ'[j]? = some b) → blkQ v' = some σ.length → K v' σ' (k + 1)) : AppK (ctx.plus S) c k σ [22, 22] v (.own i 0 1 1 m) K := by
  refine ⟨?_⟩
  have hti : (ctx.plus S).ty 22 = some t22 := rfl
  have he : (ctx.plus S).ty 3 = some t3 := rfl
  have hd : decide (srcOk t22.desc = true ∧ t3.bytes ≤ 2 ^ 10) = true := rfl
  have htd : t22.desc = .slice 3 := rfl
  have hs : t3.size = 1 := rfl
  unfold pappK
  have e22 : t22 = { desc := .slice 3, size := t22.size, bytes := t22.bytes, zero := t22.zero } := rfl
  rw [e22] at hti hd
  simp only [hti, he]
  simp only [hd]
  refine ⟨ty, [pn z], [pn z], hx, by rw [hs]; simp, by rw [hs]; rfl, ⟨by decide, by simp [pones]; rfl⟩, ?_⟩
  obtain ⟨j, o, cs, h1, h2, h3, h4⟩ := hg
  have hnew : ∀ {σ' : List StB}, σ'.length = σ.length → Qu (.ownu σ.length (Q.length + 1) 1) (σ' ++ [.live 3 (Q.map pn ++ [pn z])]) (Q ++ [z]) := fun {σ'} h =>
    ⟨σ.length, 0, Q.map pn ++ [pn z], by rw [← h]; simp, by simp, by rw [List.drop_zero, List.take_of_length_le (by simp)]; simp, .inr (.inl ⟨by simp, rfl⟩)⟩
  have hold : ∀ {b : StB} {j : Nat} {x : StB}, σ[j]? = some x → (σ ++ [b])[j]? = some x := fun h => by rw [List.getElem?_append_left (List.getElem?_eq_some_iff.1 h).1]; exact h
  have hset : ∀ {b : StB} (j' : Nat) (x : StB), j ≠ j' → σ[j']? = some x → (σ.set j .dead ++ [b])[j']? = some x := fun {b} j' x hne hb => by
    rw [List.getElem?_append_left (by rw [List.length_set]; exact (List.getElem?_eq_some_iff.1 hb).1), List.getElem?_set_ne hne]
    exact hb
  rcases h4 with rfl | ⟨rfl, rfl⟩ | rfl
  · refine ⟨by omega, (fun h => by omega), fun _ => ⟨hk, 3, cs, Q.map pn ++ [pn z], contOf_live h1, by rw [hs]; omega, by rw [hs, Nat.mul_one, h3], ?_⟩⟩
    rw [hs]
    exact hK _ _ (hnew rfl) (fun j b _ hb => hold hb) rfl
  · refine ⟨⟨by omega, hs.symm, hk⟩, cs, Q.map pn ++ [pn z], h1, by rw [hs]; omega, by rw [hs, Nat.mul_one, ← h3, List.drop_zero], ?_⟩
    exact hK _ _ (hnew (by simp)) (fun j' b hj hb => hset j' b (fun e => hj (by rw [← e]; rfl)) hb) rfl
  · refine ⟨⟨⟨by omega, hs.symm, hk⟩, rfl⟩, cs, Q.map pn ++ [pn z], h1, by rw [hs]; omega, by rw [hs, Nat.mul_one, h3], ?_⟩
    exact hK _ _ (hnew (by simp)) (fun j' b hj hb => hset j' b (fun e => hj (by rw [← e]; rfl)) hb) rfl
theorem Qu.tail {j o : Nat} {σ : List StB} {Q : List Int} {a : Int} {cs : List PV} {v : PV} (h1 : σ[j]? = some (.live 3 cs)) (h2 : o + (a :: Q).length ≤ cs.length) (h3 : (cs.drop o).take (a :: Q).length = (a :: Q).map pn) (hv : v = .own j (if (a :: Q).length = 1 then o else o + 1) Q.length Q.length 1 ∨ v = .ownq j (o + 1) Q.length 1) : Qu v σ Q := by
  simp only [List.length_cons] at h2 h3 hv
  have h3' : (cs.drop (o + 1)).take Q.length = Q.map pn := by
    have := congrArg (List.drop 1) h3
    rw [List.drop_take, List.drop_drop] at this
    simpa using this
  rcases hv with hv | hv
  · by_cases e : Q.length + 1 = 1
    · rw [if_pos e] at hv
      have hq : Q = [] := List.length_eq_zero_iff.1 (by omega)
      subst hq
      exact ⟨j, o, cs, h1, by omega, by simp, .inl hv⟩
    · rw [if_neg e] at hv
      exact ⟨j, o + 1, cs, h1, by omega, h3', .inl hv⟩
  · exact ⟨j, o + 1, cs, h1, by omega, h3', .inr (.inr hv)⟩
theorem cal2f {dr : Bool} {C : Ctx} {c k d : Nat} {σ σ1 σ2 : List StB} {g : FuncId} {K : PV → List StB → Nat → Prop} {v w p q : PV} {Q : TypeId → Nat → Nat → Nat → List PV → Prop} (h1 : Fz v σ p σ1) (h2 : Fz w σ1 q σ2) (h : Cfr C g [p, q] d Q) (hk : k + d ≤ c) (hK : ∀ ty n cp e cs, Q ty n cp e cs → K (.own σ2.length 0 n cp e) (σ2 ++ [.live ty cs]) (k + d)) : ArgK dr C c k σ g [v, w] K :=
  ⟨.inl (h1 _ (h2 _ ⟨⟨d, hk, .inr (.inl ⟨Q, h, hK⟩)⟩⟩))⟩
theorem fz_ints1 {i : Nat} {a : Int} {ty : TypeId} {σ : List StB} (h : contOf σ i = some (ty, [pn a])) : Fz (.own i 0 1 1 1) σ (pIs [a]) (σ.set i (.frz ty [pn a])) := fz_own h (Nat.le_refl _) (Nat.le_refl _) rfl
theorem fn119 : ctx.fn 119 = some c119 := by kernel_rfl
theorem mapTo_ct (hS : OldO S) {r u r2 u2 : List Int} {n m s : Nat} {f f' g g' F F' G G' : Nat → Nat} (ho : IsO r u n f f' g g') (ho2 : IsO r2 u2 m F F' G G') (hcn : Conn n f g) (hs : s < m) (hn20 : n ≤ 30) :
    Ct (ctx.plus S) 119 [pO r u, pO r2 u2, pn s] 1000 fun v => (∃ h, MapAt n m s f g F G h ∧ v = .tup [pIs (PL n h), .bool true]) ∨ ((∀ h, ¬ MapAt n m s f g F G h) ∧ v = .tup [.lst 0 [], .bool false]) := by
  have hn := ho.le
  have hm := ho2.le
  have h0 := ho.pos
  have hrl := ho.l1.1
  subst hrl
  refine ct_of (hS 119 (by decide)) fn119 ?_
  refine ⟨by omega, by omega, ?_⟩
  refine ⟨by omega, partc rfl ⟨_, rfl, ?_⟩⟩
  refine ⟨_, rfl, ?_⟩
  refine cal2f (fz_ints1 rfl) fzI (repeatI_cf S hS (a := -1) (n := r.length) h0 hn20) (by omega) ?_
  rintro ty _ cp e cs ⟨rfl, rfl, rfl, rfl, rfl⟩
  have hrl : (List.replicate r.length (-1 : Int)).length = r.length := by simp
  refine ⟨⟨by omega, by omega⟩, ?_⟩
  refine ⟨_, _, rfl, ⟨rfl, by rw [List.length_map, hrl]; show 0 + 0 * 1 + 1 ≤ _; omega, rfl⟩, _, int_put (j := 0) (by rfl) (by omega), _, rfl, ?_⟩
  refine ⟨by omega, partc rfl ⟨_, rfl, ?_⟩⟩
  have hB0 : BM r.length s f g F G ((List.replicate r.length (-1 : Int)).set 0 (s : Int)) [0] := BM.start h0
  refine ⟨fun q s' => ∃ (D Q : List Int) (v : PV) (σ : List StB) (b : Nat) (T : List PV), s' = ⟨T, σ, b⟩ ∧ Gt T 69 [(3, .optr 0 0), (4, .optr 1 0), (8, .own 3 0 r.length r.length 1), (9, v)] ∧ q = D.count (-1) + Q.length ∧ b + 10 * (D.count (-1) + Q.length) ≤ 20 + 10 * r.length ∧ Hid (BM r.length s f g F G D Q ∧ (σ[0]? = some (.live 24 [pIs r, pIs u]) ∧ σ[1]? = some (.live 24 [pIs r2, pIs u2]) ∧ σ[3]? = some (.live 3 (D.map pn))) ∧ Qu v σ Q ∧ (∀ q, q < 4 → blkQ v ≠ some q)), ⟨_, ci ⟨_, [0], _, _, _, _, rfl, ⟨rfl, rfl, rfl, rfl, rfl, trivial⟩, rfl, by have := hB0.ql; simp only [List.length_cons, List.length_nil] at this ⊢; omega, ⟨hB0, ⟨rfl, rfl, rfl⟩, ⟨4, 0, [pn 0], rfl, Nat.le_refl 1, rfl, .inl rfl⟩, fun q hq => ?_⟩⟩⟩, ?_⟩
  · show some 4 ≠ some q
    intro e; have := Option.some.inj e; omega
  rintro _ s' ⟨D, Q, v, σ, b, T, rfl, hT, rfl, hb, hh⟩
  obtain ⟨J, rfl⟩ := gt_open hT
  clear hT
  obtain ⟨hB, ⟨s0, s1, s3⟩, hQ, v0⟩ := hh.h
  clear hh hB0
  have l3 : 3 < σ.length := (List.getElem?_eq_some_iff.1 s3).1
  have hql := hB.ql
  obtain ⟨j, o, cs, h1, h2, h3, h4⟩ := hQ
  rcases h4 with rfl | ⟨rfl, rfl⟩ | rfl
  all_goals
    refine ⟨fun hlt => ?_, fun hge => ?_⟩
    · obtain ⟨a, Q', rfl⟩ : ∃ a Q', Q = a :: Q' := by
        cases Q with
        | nil => exact absurd hlt (by decide)
        | cons a Q' => exact ⟨a, Q', rfl⟩
      have hv0 : cs[_]? = some (pn a) := (by
        have := congrArg (fun l => l[0]?) h3
        simpa [List.getElem?_take, List.getElem?_drop] using this)
      obtain ⟨w, rfl, d, hwd⟩ := hB.q a (by simp)
      have hw : w < r.length := by have := (List.getElem?_eq_some_iff.1 hwd).1; rw [hB.len] at this; exact this
      have hjw : Jr f g F G s w d := by
        rcases hB.bd w _ hwd with hb | ⟨z, hz, hj⟩
        · omega
        · rw [show d = z by omega]; exact hj
      have hd : d < m := (jr_lt ho.pr ho.pu ho2.pr ho2.pu h0 hs hjw).2
      refine ⟨⟨by omega, by simp only [List.length_cons]; omega⟩, ?_⟩
      refine ⟨_, load_k rfl rfl (contOf_live h1) hv0 rfl, ?_⟩
      refine ⟨by kernel_rfl, ?_⟩
      refine ⟨_, load_c (contOf_live s1) rfl rfl, rfl, ?_⟩
      refine ⟨⟨by omega, by omega⟩, ?_⟩
      refine ⟨_, load_k rfl rfl (contOf_live s3) (at_map hwd) (by show 0 + w * 1 = w; omega), rfl, ?_⟩
      refine callq rfl (neighbours_ct S hS ho2 hd) (by omega) ?_
      rintro _ rfl
      refine ⟨by omega, ?_⟩
      refine ⟨_, _, push_get, ⟨rfl, Nat.le_of_ble_eq_true rfl, rfl⟩, _, rfl, _, push_set, ?_⟩
      refine ⟨_, load_c (contOf_live (push_old s0)) rfl rfl, ?_⟩
      refine callq rfl (neighbours_ct S hS ho hw) (by omega) ?_
      rintro _ rfl
      obtain ⟨c0, hc0e⟩ : ∃ c0, c0 = D.count (-1) + ((w : Int) :: Q').length := ⟨_, rfl⟩
      obtain ⟨L, hLe⟩ : ∃ L, L = σ.length := ⟨_, rfl⟩
      have hjl := (List.getElem?_eq_some_iff.1 h1).1
      refine ⟨fun q s' => ∃ (k : Nat) (D Q : List Int) (v : PV) (σ : List StB) (b : Nat) (T : List PV), s' = ⟨T, σ, b⟩ ∧ Gt T 69 [(3, .optr 0 0), (4, .optr 1 0), (8, .own 3 0 r.length r.length 1), (9, v), (10, pn w), (11, .optr L 0), (39, .agg [pn (f w), pn (g w)]), (40, pn k)] ∧ q = 2 - k ∧ k ≤ 2 ∧ b + 10 * (D.count (-1) + Q.length) ≤ 15 + 10 * r.length + 2 * k ∧ D.count (-1) + ((w : Int) :: Q).length ≤ c0 ∧ Hid (BM r.length s f g F G D ((w : Int) :: Q) ∧ (σ[0]? = some (.live 24 [pIs r, pIs u]) ∧ σ[1]? = some (.live 24 [pIs r2, pIs u2]) ∧ σ[3]? = some (.live 3 (D.map pn)) ∧ σ[L]? = some (.live 107 [pn (F d), pn (G d)])) ∧ Qu v σ ((w : Int) :: Q) ∧ (∀ q, q < 4 ∨ q = L → blkQ v ≠ some q) ∧ D[w]? = some (d : Int) ∧ (1 ≤ k → D[f w]? = some (F d : Int)) ∧ (2 ≤ k → D[g w]? = some (G d : Int))), ⟨_, ci ⟨0, D, Q', _, _, _, _, rfl, ⟨rfl, rfl, rfl, rfl, rfl, rfl, by rw [hLe]; rfl, rfl, rfl, trivial⟩, rfl, Nat.zero_le _, by simp only [List.length_cons] at hb ⊢; omega, Nat.le_of_eq hc0e.symm, ⟨hB, ⟨push_old s0, push_old s1, push_old s3, by rw [hLe]; exact push_get⟩, ⟨j, _, cs, push_old h1, h2, h3, by first | exact .inl rfl | exact .inr (.inl ⟨rfl, rfl⟩) | exact .inr (.inr rfl)⟩, fun q hq e => ?_, hwd, fun h => by omega, fun h => by omega⟩⟩⟩, ?_⟩
      · rcases hq with hq | hq
        · exact v0 q hq e
        · have e : some j = some q := e
          have := Option.some.inj e; omega
      have hL4 : 3 < L := by omega
      clear h1 h2 h3 v0 hv0 hlt s0 s1 s3 hB hwd hb hql l3
      rintro _ s' ⟨k, D, Q, v, σ, b, T, rfl, hT, rfl, hk, hb, hm2, hh⟩
      obtain ⟨J, rfl⟩ := gt_open hT
      clear hT
      obtain ⟨hB, ⟨s0, s1, s3, sL⟩, hQ, v0, hwd, hc1, hc2⟩ := hh.h
      clear hh
      refine ⟨fun hlt => ?_, fun hge => ?_⟩
      · obtain ⟨cb, z, y, hz1, hy1, hzc, hyc, hz, hj⟩ : ∃ (cb : Bool) (z y : Nat), partP t3 [pn (f w), pn (g w)] ((k : Int).toNat * 1) = some (pn z) ∧ [pn (F d), pn (G d)][k]? = some (pn y) ∧ (z = if cb then f w else g w) ∧ (y = if cb then F d else G d) ∧ (cb = true ↔ k = 0) ∧ Jr f g F G s z y := by
          rcases (show k = 0 ∨ k = 1 by omega) with rfl | rfl
          · exact ⟨true, f w, F d, rfl, rfl, rfl, rfl, by simp, .f hjw⟩
          · exact ⟨false, g w, G d, rfl, rfl, rfl, rfl, by simp, .g hjw⟩
        have hzn : z < r.length := (jr_lt ho.pr ho.pu ho2.pr ho2.pu h0 hs hj).1
        obtain ⟨e, he⟩ : ∃ e, D[z]? = some e := ⟨_, List.getElem?_eq_getElem (by rw [hB.len]; exact hzn)⟩
        refine ⟨⟨by omega, by omega⟩, _, hz1, ?_⟩
        refine ⟨⟨by omega, by omega⟩, ?_⟩
        refine ⟨_, load_k rfl rfl (contOf_live s3) (at_map he) (by show 0 + z * 1 = z; omega), ?_⟩
        have hql := hB.ql
        have l3 : 3 < σ.length := (List.getElem?_eq_some_iff.1 s3).1
        have lL : L < σ.length := (List.getElem?_eq_some_iff.1 sL).1
        refine ⟨fun h => ?_, fun h => ?_⟩
        · subst h
          refine ⟨⟨by omega, by omega⟩, ?_⟩
          refine ⟨_, load_k rfl rfl (contOf_live sL) hy1 (by show 0 + k * 1 = k; omega), ?_⟩
          refine ⟨⟨by omega, by omega⟩, ?_⟩
          refine ⟨_, _, s3, ⟨rfl, by rw [List.length_map, hB.len]; show 0 + z * 1 + 1 ≤ _; omega, rfl⟩, _, int_put (j := z) (by show 0 + z * 1 = z; omega) (by rw [hB.len]; exact hzn), _, rfl, ?_⟩
          refine ⟨by simp only [List.length_cons] at hql; omega, partc rfl ⟨_, rfl, ?_⟩⟩
          have hcs := cnt_set he (a := (y : Int)) (by omega)
          have hold : ∀ (j : Nat) (b : StB), j ≠ 3 → σ[j]? = some b → (σ.set 3 (StB.live 3 ((D.set z (y : Int)).map pn)) ++ [StB.live 3 [pn z]])[j]? = some b := fun j b hj hb => by
            rw [List.getElem?_append_left (by rw [List.length_set]; exact (List.getElem?_eq_some_iff.1 hb).1), List.getElem?_set_ne (Ne.symm hj)]
            exact hb
          have hnew : (σ.set 3 (StB.live 3 ((D.set z (y : Int)).map pn)) ++ [StB.live 3 [pn z]])[3]? = some (.live 3 ((D.set z (y : Int)).map pn)) := by
            rw [List.getElem?_append_left (by rw [List.length_set]; exact l3), List.getElem?_set_self l3]
          have hQ1 := hQ.keep fun j b hj hb => hold j b (fun e => v0 3 (.inl (by omega)) (by rw [hj, e])) hb
          refine appQ S hQ1 (contOf_live (push_get' rfl)) (by omega) (by simp only [List.length_cons] at hql; omega) ?_
          intro v' σ' g1 g2 g3
          have hl' : (σ.set 3 (StB.live 3 ((D.set z (y : Int)).map pn)) ++ [StB.live 3 [pn z]]).length = σ.length + 1 := by simp
          have g3 : blkQ v' = some (σ.length + 1) := by rw [g3]; simp
          have k3 := g2 3 _ (v0 3 (.inl (by omega))) hnew
          have kL := g2 L _ (v0 L (.inr rfl)) (hold L _ (by omega) sL)
          have hzz : (D.set z (y : Int))[z]? = some (y : Int) := List.getElem?_set_self (by rw [hB.len]; exact hzn)
          refine ⟨by kernel_rfl, ?_⟩
          refine ⟨⟨by omega, by omega⟩, ?_⟩
          refine ⟨_, load_k rfl rfl (contOf_live k3) (at_map hzz) (by show 0 + z * 1 = z; omega), rfl, ?_⟩
          refine ⟨⟨by omega, by omega⟩, ?_⟩
          refine ⟨_, load_k rfl rfl (contOf_live kL) hy1 (by show 0 + k * 1 = k; omega), rfl, ?_⟩
          refine ⟨fun h => absurd rfl h, fun _ => ?_⟩
          refine ⟨⟨by omega, by omega⟩, ?_⟩
          refine ⟨_, by omega, ci ⟨k + 1, D.set z (y : Int), Q ++ [(z : Int)], v', σ', _, _, rfl, ⟨rfl, rfl, rfl, rfl, rfl, rfl, rfl, rfl, rfl, trivial⟩, rfl, by omega, by simp only [List.length_append, List.length_cons, List.length_nil]; omega, by simp only [List.length_cons, List.length_append, List.length_nil] at hm2 ⊢; omega, ⟨hB.put he hj, ⟨g2 0 _ (v0 0 (.inl (by omega))) (hold 0 _ (by omega) s0), g2 1 _ (v0 1 (.inl (by omega))) (hold 1 _ (by omega) s1), k3, kL⟩, g1, fun q hq e => ?_, bm_get he hwd, fun h1 => ?_, fun h1 => ?_⟩⟩⟩
          · rw [g3] at e; have := Option.some.inj e; omega
          · by_cases hk0 : k = 0
            · have hcb := hz.2 hk0
              rw [hcb] at hzc hyc
              have hzc : z = f w := hzc
              have hyc : y = F d := hyc
              rw [← hzc, ← hyc]; exact hzz
            · exact bm_get he (hc1 (by omega))
          · have hk1 : k = 1 := by omega
            have hcb : cb = false := by cases cb with | false => rfl | true => exact absurd (hz.1 rfl) (by omega)
            rw [hcb] at hzc hyc
            have hzc : z = g w := hzc
            have hyc : y = G d := hyc
            rw [← hzc, ← hyc]; exact hzz
        · obtain ⟨e, rfl⟩ : ∃ e' : Nat, e = e' := by
            rcases hB.bd z e he with hb | ⟨z', hz', -⟩
            · exact absurd hb h
            · exact ⟨z', hz'⟩
          refine ⟨by kernel_rfl, ?_⟩
          refine ⟨⟨by omega, by omega⟩, ?_⟩
          refine ⟨_, load_k rfl rfl (contOf_live s3) (at_map he) (by show 0 + z * 1 = z; omega), rfl, ?_⟩
          refine ⟨⟨by omega, by omega⟩, ?_⟩
          refine ⟨_, load_k rfl rfl (contOf_live sL) hy1 (by show 0 + k * 1 = k; omega), rfl, ?_⟩
          refine ⟨fun hne => ?_, fun heq => ?_⟩
          · exact ⟨⟨[], .inr ⟨hB.bad ho.pr ho.pu h0 hwd hzc he (by rw [← hyc]; omega), rfl⟩⟩⟩
          · have heq : e = y := by omega
            refine ⟨⟨by omega, by omega⟩, ?_⟩
            refine ⟨_, by omega, ci ⟨k + 1, D, Q, v, σ, _, _, rfl, ⟨rfl, rfl, rfl, rfl, rfl, rfl, rfl, rfl, rfl, trivial⟩, rfl, by omega, by omega, hm2, ⟨hB, ⟨s0, s1, s3, sL⟩, hQ, v0, hwd, fun h1 => ?_, fun h1 => ?_⟩⟩⟩
            · by_cases hk0 : k = 0
              · have hcb := hz.2 hk0
                rw [hcb] at hzc hyc
                have hzc : z = f w := hzc
                have hyc : y = F d := hyc
                rw [← hzc, ← hyc, ← heq]; exact he
              · exact hc1 (by omega)
            · have hk1 : k = 1 := by omega
              have hcb : cb = false := by cases cb with | false => rfl | true => exact absurd (hz.1 rfl) (by omega)
              rw [hcb] at hzc hyc
              have hzc : z = g w := hzc
              have hyc : y = G d := hyc
              rw [← hzc, ← hyc, ← heq]; exact he
      · have hk2 : k = 2 := by omega
        subst hk2
        have hB' := hB.pop hwd (hc1 (by omega)) (hc2 (by omega))
        obtain ⟨j, o, cs, h1, h2, h3, h4⟩ := hQ
        rcases h4 with rfl | ⟨rfl, rfl⟩ | rfl
        · refine ⟨Nat.le_refl _, ⟨by omega, by simp only [List.length_cons]; omega⟩, _, rfl, ?_⟩
          refine ⟨_, by simp only [List.length_cons] at hm2 hc0e ⊢; omega, ci ⟨D, Q, _, σ, b, _, rfl, ⟨rfl, rfl, rfl, rfl, rfl, trivial⟩, rfl, by omega, ⟨hB', ⟨s0, s1, s3⟩, Qu.tail h1 h2 h3 (.inl ?_), fun q hq => v0 q (.inl hq)⟩⟩⟩
          simp only [List.length_cons]
          rfl
        · refine ⟨rfl, ⟨by omega, by simp only [List.length_cons]; omega⟩, ?_⟩
          refine ⟨_, by simp only [List.length_cons] at hm2 hc0e ⊢; omega, ci ⟨D, Q, _, σ, b, _, rfl, ⟨rfl, rfl, rfl, rfl, rfl, trivial⟩, rfl, by omega, ⟨hB', ⟨s0, s1, s3⟩, Qu.tail h1 h2 h3 (.inr ?_), fun q hq => v0 q (.inl hq)⟩⟩⟩
          simp only [List.length_cons]
          rfl
        · refine ⟨rfl, ⟨by omega, by simp only [List.length_cons]; omega⟩, ?_⟩
          refine ⟨_, by simp only [List.length_cons] at hm2 hc0e ⊢; omega, ci ⟨D, Q, _, σ, b, _, rfl, ⟨rfl, rfl, rfl, rfl, rfl, trivial⟩, rfl, by omega, ⟨hB', ⟨s0, s1, s3⟩, Qu.tail h1 h2 h3 (.inr ?_), fun q hq => v0 q (.inl hq)⟩⟩⟩
          simp only [List.length_cons]
          rfl
    · have hqn : Q = [] := List.length_eq_zero_iff.1 (by omega)
      subst hqn
      obtain ⟨h, hM, hD⟩ := hB.fin ho.pr ho.pu ho2.pr ho2.pu h0 hs hcn
      refine ⟨⟨[], fz_ints (xs := D) (contOf_live s3) hB.len (fun p' σ' => frzAsK σ' [.bool true] fun rs _ => (∃ h, MapAt r.length m s f g F G h ∧ PV.tup (p' :: rs) = .tup [pIs (PL r.length h), .bool true]) ∨ ((∀ h, ¬ MapAt r.length m s f g F G h) ∧ PV.tup (p' :: rs) = .tup [.lst 0 [], .bool false])) (.inl ⟨h, hM, by rw [hD]⟩)⟩⟩
end Go.PI
/- A MAP OF SQUARES found in rounds, of the reference. -/
open Go.Proofs
namespace Go.PI
open IM
set_option maxRecDepth 10000
set_option maxHeartbeats 4000000
variable (S : FuncId → Option (List AV → Heap → Option (AV × Heap)))
def kn (D : List Int) : List Bool := D.map fun d => decide (0 ≤ d)
theorem kn_len {D : List Int} : (kn D).length = D.length := by unfold kn; rw [List.length_map]
theorem kn_get {D : List Int} {y : Nat} : (kn D)[y]? = some true ↔ ∃ d : Int, D[y]? = some d ∧ 0 ≤ d := by
  unfold kn
  rw [List.getElem?_map]
  cases D[y]? with
  | none => simp
  | some d => simp
theorem kn_set {D : List Int} {y z : Nat} : kn (D.set y (z : Int)) = (kn D).set y true := by
  unfold kn
  rw [List.map_set]
  simp
structure RM (n s i j : Nat) (f g F G : Nat → Nat) (D : List Int) : Prop where
  fl : FlI n f g 0 i j (kn D)
  bd : ∀ (w : Nat) (d : Int), D[w]? = some d → d = -1 ∨ ∃ z : Nat, d = z ∧ Jr f g F G s w z
section
variable {n m s i j : Nat} {f f' g g' F F' G G' : Nat → Nat} {D : List Int}
theorem RM.mark (h : RM n s i j f g F G D) {d : Nat} (hd : D[j]? = some (d : Int)) (hf : f j < n) (hg : g j < n) : RM n s i (j + 1) f g F G ((D.set (f j) (F d : Int)).set (g j) (G d : Int)) := by
  have hj : Jr f g F G s j d := by
    rcases h.bd j _ hd with hb | ⟨z, hz, hj⟩
    · omega
    · rw [show d = z by omega]; exact hj
  refine ⟨?_, fun w x hw => ?_⟩
  · rw [kn_set, kn_set]
    exact fl_mark h.fl (kn_get.2 ⟨d, hd, by omega⟩) hf hg
  · by_cases e : g j = w
    · rw [e, List.getElem?_set_self (by rw [← e, List.length_set]; have := h.fl.len; rw [kn_len] at this; omega)] at hw
      exact .inr ⟨G d, (Option.some.inj hw).symm, by rw [← e]; exact .g hj⟩
    · rw [List.getElem?_set_ne e] at hw
      by_cases e2 : f j = w
      · rw [e2, List.getElem?_set_self (by rw [← e2]; have := h.fl.len; rw [kn_len] at this; omega)] at hw
        exact .inr ⟨F d, (Option.some.inj hw).symm, by rw [← e2]; exact .f hj⟩
      · rw [List.getElem?_set_ne e2] at hw
        exact h.bd w x hw
theorem RM.skip (h : RM n s i j f g F G D) {d : Int} (hd : D[j]? = some d) (hn : ¬ 0 ≤ d) : RM n s i (j + 1) f g F G D := by
  refine ⟨fl_skip h.fl ?_, h.bd⟩
  unfold kn
  rw [List.getElem?_map, hd]
  simp; omega
theorem RM.next (pf : IsP n f f') (pg : IsP n g g') (h0 : 0 < n) (h : RM n s i n f g F G D) : RM n s (i + 1) 0 f g F G D := ⟨fl_next pf pg h0 h.fl, h.bd⟩
theorem RM.start (h0 : 0 < n) : RM n s 0 0 f g F G ((List.replicate n (-1 : Int)).set 0 (s : Int)) := by
  refine ⟨?_, fun w d hw => ?_⟩
  · rw [kn_set]
    have : kn (List.replicate n (-1)) = List.replicate n false := by unfold kn; rw [List.map_replicate]; rfl
    rw [this]
    exact fl_zero h0
  · by_cases e : 0 = w
    · subst e
      rw [List.getElem?_set_self (by simpa using h0)] at hw
      exact .inr ⟨s, (Option.some.inj hw).symm, .base⟩
    · rw [List.getElem?_set_ne e, List.getElem?_replicate] at hw
      split at hw
      · exact .inl (Option.some.inj hw).symm
      · cases hw
theorem RM.fin (pf : IsP n f f') (pg : IsP n g g') (pF : IsP m F F') (pG : IsP m G G') (h0 : 0 < n) (hs : s < m) (hcn : Conn n f g) (h : RM n s n j f g F G D) : ∃ k : Nat → Nat, D = PL n k ∧ (∀ y, y < n → k y < m) ∧ ∀ y, y < n → Jr f g F G s y (k y) := by
  have hl := h.fl.len
  rw [kn_len] at hl
  have hk : ∀ y, y < n → D[y]? = some (((D.getD y 0).toNat : Nat) : Int) ∧ Jr f g F G s y (D.getD y 0).toNat := fun y hy => by
    obtain ⟨d, hd, hd0⟩ := kn_get.1 ((fl_done pf pg h0 h.fl y).2 (hcn y hy))
    rw [List.getD_eq_getElem?_getD, hd]
    show some d = some ((d.toNat : Nat) : Int) ∧ _
    refine ⟨by rw [show ((d.toNat : Nat) : Int) = d by omega], ?_⟩
    rcases h.bd y d hd with hb | ⟨z, hz, hj⟩
    · omega
    · show Jr f g F G s y d.toNat
      rw [show d.toNat = z by omega]; exact hj
  refine ⟨fun y => (D.getD y 0).toNat, ?_, fun y hy => (jr_lt pf pg pF pG h0 hs (hk y hy).2).2, fun y hy => (hk y hy).2⟩
  apply List.ext_getElem?
  intro y
  by_cases hy : y < n
  · rw [(hk y hy).1, PL_get hy]
  · rw [List.getElem?_eq_none (by omega), List.getElem?_eq_none (by rw [PL_len]; omega)]
end
end Go.PI
/- ALL MAPS: the list of the reference, the loop of the program. -/
open Go.Proofs
namespace Go.PI
open IM
set_option maxRecDepth 10000
set_option maxHeartbeats 4000000
variable (S : FuncId → Option (List AV → Heap → Option (AV × Heap)))
open Classical in
noncomputable def mp1 (n m : Nat) (f g F G : Nat → Nat) (s : Nat) : List (List Int) := if h : ∃ h, MapAt n m s f g F G h then [PL n h.choose] else []
noncomputable def mps (n m : Nat) (f g F G : Nat → Nat) : Nat → List (List Int)
  | 0 => []
  | k + 1 => mps n m f g F G k ++ mp1 n m f g F G k
section
variable {n m k : Nat} {f f' g g' F F' G G' h : Nat → Nat}
theorem mp1_yes (pf : IsP n f f') (pg : IsP n g g') (h0 : 0 < n) (hcn : Conn n f g) (hm : MapAt n m k f g F G h) : mp1 n m f g F G k = [PL n h] := by
  have he : ∃ h, MapAt n m k f g F G h := ⟨h, hm⟩
  unfold mp1
  rw [dif_pos he, map_PL pf pg h0 hcn he.choose_spec hm]
theorem mp1_no (hm : ∀ h, ¬ MapAt n m k f g F G h) : mp1 n m f g F G k = [] := by
  unfold mp1
  rw [dif_neg (fun ⟨h, hh⟩ => hm h hh)]
end
theorem fn77 : ctx.fn 77 = some c77 := by kernel_rfl
theorem fn118 : ctx.fn 118 = some c118 := by kernel_rfl
theorem fz_fnc2 {f i j : Nat} {σ : List StB} {t1 t2 : TypeId} {c1 c2 : List PV} (h1 : contOf σ i = some (t1, c1)) (h2 : contOf σ j = some (t2, c2)) : ∃ σ', Fz (.fnc f [.optr i 0, .optr j 0]) σ (.fnc f [.lptr c1, .lptr c2]) σ' :=
  ⟨_, fun K hK => ⟨t1, c1, h1, Nat.zero_le _, t2, c2, by rw [contOf_set h1]; exact h2, Nat.zero_le _, hK⟩⟩
theorem mapsTo_ct (hS : OldO S) {r u r2 u2 : List Int} : Ct (ctx.plus S) 77 [pO r u, pO r2 u2] 2 fun w => w = .fnc 118 [.lptr [pIs r2, pIs u2], .lptr [pIs r, pIs u]] := by
  refine ct_of (hS 77 (by decide)) fn77 ?_
  refine ⟨by omega, by omega, ?_⟩
  obtain ⟨σ', hf⟩ := fz_fnc2 (f := 118) (i := 1) (j := 0) (σ := [.live 24 [pIs r, pIs u], .live 24 [pIs r2, pIs u2]]) rfl rfl
  exact endf hf rfl
theorem yldq {C : Ctx} {c k d i : Nat} {σ : List StB} {ps : List PV} {K : PV → List StB → Nat → Prop} {Q : Bool → List StB → Prop} (h : Cy C i ps σ d Q) (hk : k + d ≤ c) (hK : ∀ r σ', Q r σ' → K (.bool r) σ' (k + d)) : YldK false C c k σ i ps K :=
  ⟨rfl, [], ⟨[], by cases ps <;> exact ⟨d, Q, hk, h, hK⟩⟩⟩
theorem maps_cm (hS : OldO S) {r u r2 u2 : List Int} {n m i d : Nat} {f f' g g' F F' G G' : Nat → Nat} (ho : IsO r u n f f' g g') (ho2 : IsO r2 u2 m F F' G G') (hcn : Conn n f g) (hn20 : n ≤ 30) {σ0 : List StB} (Inv : Nat → List StB → Prop) (Fin : List StB → Prop)
    (hy : ∀ (s : Nat) (h : Nat → Nat) (σ : List StB), s < m → MapAt n m s f g F G h → Inv s σ → Cy (ctx.plus S) i [pIs (PL n h)] σ d fun b σ' => (b = true ∧ Inv (s + 1) σ') ∨ (b = false ∧ Fin σ'))
    (hskip : ∀ (s : Nat) (σ : List StB), s < m → (∀ h, ¬ MapAt n m s f g F G h) → Inv s σ → Inv (s + 1) σ) (hI0 : Inv 0 σ0) :
    Cm (ctx.plus S) 118 [.yld i, .lptr [pIs r2, pIs u2], .lptr [pIs r, pIs u]] σ0 (60 * (1000 + d)) fun w σ' => w = .tup [] ∧ (Inv m σ' ∨ Fin σ') := by
  have hn := ho.le
  have hm := ho2.le
  have hl2 := ho2.l1
  have hmd : m * (1000 + d) ≤ 60 * (1000 + d) := Nat.mul_le_mul_right _ hm
  refine cm_of Opn.no (hS 118 (by decide)) fn118 fun c k0 hc => ?_
  refine ⟨by simp, ?_⟩
  refine ⟨_, rfl, ?_⟩
  refine ⟨fun q st => ∃ (s k : Nat) (σ : List StB) (T : List PV), st = ⟨T, σ, k⟩ ∧ Gt T 28 [(0, .yld i), (1, .lptr [pIs r2, pIs u2]), (2, .lptr [pIs r, pIs u]), (9, pn r2.length), (10, pn s)] ∧ q = m - s ∧ s ≤ m ∧ k ≤ k0 + s * (1000 + d) ∧ Hid (Inv s σ), ⟨_, ci ⟨0, k0, σ0, _, rfl, ⟨rfl, rfl, rfl, rfl, rfl, rfl, trivial⟩, rfl, Nat.zero_le _, by omega, ⟨hI0⟩⟩⟩, ?_⟩
  rintro q st ⟨s, k, σ, T, rfl, hT, hq, hs, hk, hI⟩
  obtain ⟨J, rfl⟩ := gt_open hT
  clear hT
  refine ⟨fun hlt => ?_, fun hge => ?_⟩
  · have hsm : s < m := by omega
    have hmul : (s + 1) * (1000 + d) = s * (1000 + d) + (1000 + d) := Nat.succ_mul s (1000 + d)
    have hle : (s + 1) * (1000 + d) ≤ m * (1000 + d) := Nat.mul_le_mul_right _ hsm
    refine ⟨_, rfl, ?_⟩
    refine ⟨_, rfl, ?_⟩
    refine callq rfl (mapTo_ct S hS ho ho2 hcn hsm hn20) (by omega) ?_
    rintro _ (⟨h, hM, rfl⟩ | ⟨hM, rfl⟩)
    · refine yldq (hy s h σ hsm hM hI.h) (by omega) ?_
      rintro b σ' (⟨rfl, hI2⟩ | ⟨rfl, hF⟩)
      · refine ⟨⟨by omega, by omega⟩, ?_⟩
        exact ⟨_, by omega, ci ⟨s + 1, _, σ', _, rfl, ⟨rfl, rfl, rfl, rfl, rfl, rfl, trivial⟩, rfl, by omega, by omega, ⟨hI2⟩⟩⟩
      · refine endm [] (by dsimp only; omega) ?_
        exact ⟨rfl, .inr hF⟩
    · refine ⟨⟨by omega, by omega⟩, ?_⟩
      exact ⟨_, by omega, ci ⟨s + 1, _, σ, _, rfl, ⟨rfl, rfl, rfl, rfl, rfl, rfl, trivial⟩, rfl, by omega, by omega, ⟨hskip s σ hsm hM hI.h⟩⟩⟩
  · have hsm : s = m := by omega
    subst hsm
    refine endm [] (by dsimp only; omega) ?_
    exact ⟨rfl, .inl hI.h⟩
end Go.PI
/- COVERINGS AND ISOMORPHISMS, of the program; two origamis that are connected. -/
open Go.Proofs
namespace Go.PI
open IM
set_option maxRecDepth 10000
set_option maxHeartbeats 4000000
variable (S : FuncId → Option (List AV → Heap → Option (AV × Heap)))
def Con2 (n m : Nat) (f g F G : Nat → Nat) : Prop := Conn n f g ∧ Conn m F G
section
variable {r u r2 u2 : List Int} {n m : Nat} {f f' g g' F F' G G' : Nat → Nat}
theorem isSplit2_ct (hS : OldO S) (ho : IsO r u n f f' g g') (ho2 : IsO r2 u2 m F F' G G') {i : Nat} (hi : i < 2) :
    ∃ q : List Int × List Int, [(r, u), (r2, u2)][i]? = some q ∧ Ct (ctx.plus S) 114 [pO q.1 q.2] 3100 fun w => ((i = 0 → Conn n f g) ∧ (i = 1 → Conn m F G) ∧ w = .bool false) ∨ (¬ Con2 n m f g F G ∧ w = .bool true) := by
  rcases (show i = 0 ∨ i = 1 by omega) with rfl | rfl
  · refine ⟨(r, u), rfl, (isSplit_ct S hS ho).mono (Nat.le_refl _) ?_⟩
    rintro w (⟨h, rfl⟩ | ⟨h, rfl⟩)
    · exact .inl ⟨fun _ => h, fun e => by omega, rfl⟩
    · exact .inr ⟨fun hc => h hc.1, rfl⟩
  · refine ⟨(r2, u2), rfl, (isSplit_ct S hS ho2).mono (Nat.le_refl _) ?_⟩
    rintro w (⟨h, rfl⟩ | ⟨h, rfl⟩)
    · exact .inl ⟨fun e => by omega, fun _ => h, rfl⟩
    · exact .inr ⟨fun hc => h hc.2, rfl⟩
theorem indexSplit2_ct (hS : OldO S) (ho : IsO r u n f f' g g') (ho2 : IsO r2 u2 m F F' G G') :
    Ct (ctx.plus S) 137 [pOs [(r, u), (r2, u2)], .fn 114] 6400 fun w => (Con2 n m f g F G ∧ w = pn (-1)) ∨ (¬ Con2 n m f g F G ∧ ∃ i : Nat, w = pn i) := by
  refine ct_of (hS 137 (by decide)) fn137 ?_
  refine ⟨fun q s => ∃ (i b : Nat) (T : List PV), s = ⟨T, [], b⟩ ∧ Gt T 19 [(0, pOs [(r, u), (r2, u2)]), (1, .fn 114), (7, pn 2), (8, pn i)] ∧ q = 2 - i ∧ i ≤ 2 ∧ b ≤ 3100 * i ∧ Hid ((0 < i → Conn n f g) ∧ (1 < i → Conn m F G)), ⟨_, ci ⟨0, 0, _, rfl, ⟨rfl, rfl, rfl, rfl, rfl, trivial⟩, rfl, Nat.zero_le _, Nat.le_refl _, ⟨fun h => by omega, fun h => by omega⟩⟩⟩, ?_⟩
  rintro _ s ⟨i, b, T, rfl, hT, rfl, hi, hb, hh⟩
  obtain ⟨J, rfl⟩ := gt_open hT
  clear hT
  refine ⟨fun hlt => ?_, fun hge => ?_⟩
  · obtain ⟨q, hq, hsp⟩ := isSplit2_ct S hS ho ho2 (i := i) (by omega)
    refine ⟨⟨⟨by omega, by omega⟩, by show i * 2 ≤ 4; omega⟩, ?_⟩
    refine ⟨pO q.1 q.2, ?_, ?_⟩
    · rcases (show i = 0 ∨ i = 1 by omega) with rfl | rfl
      · cases hq; rfl
      · cases hq; rfl
    refine callq rfl hsp (by omega) ?_
    rintro _ (⟨h1, h2, rfl⟩ | ⟨hc, rfl⟩)
    · refine ⟨⟨by omega, by omega⟩, ?_⟩
      exact ⟨_, by omega, ci ⟨i + 1, _, _, rfl, ⟨rfl, rfl, rfl, rfl, rfl, trivial⟩, rfl, by omega, by omega, ⟨fun _ => by
        by_cases e : i = 0
        · exact h1 e
        · exact hh.h.1 (by omega), fun h => h2 (by omega)⟩⟩⟩
    · exact endq rfl (.inr ⟨hc, i, rfl⟩)
  · exact endq rfl (.inl ⟨⟨hh.h.1 (by omega), hh.h.2 (by omega)⟩, rfl⟩)
theorem containsSplit2_ct (hS : OldO S) (ho : IsO r u n f f' g g') (ho2 : IsO r2 u2 m F F' G G') :
    Ct (ctx.plus S) 113 [pOs [(r, u), (r2, u2)], .fn 114] 6400 fun w => (Con2 n m f g F G ∧ w = .bool false) ∨ (¬ Con2 n m f g F G ∧ w = .bool true) := by
  refine ct_of (hS 113 (by decide)) fn113 ?_
  refine callq rfl (indexSplit2_ct S hS ho ho2) (by omega) ?_
  rintro _ (⟨hc, rfl⟩ | ⟨hc, i, rfl⟩)
  · exact ⟨fun h => by omega, fun _ => endq rfl (.inl ⟨hc, rfl⟩)⟩
  · exact ⟨fun _ => endq rfl (.inr ⟨hc, rfl⟩), fun h => by omega⟩
open Classical in
noncomputable def cc2 (n m : Nat) (f g F G : Nat → Nat) : Int := if Con2 n m f g F G then 0 else 16
theorem checkConn2_ok (hS : OldO S) (ho : IsO r u n f f' g g') (ho2 : IsO r2 u2 m F F' G G') : Ct (ctx.plus S) 72 [pOs [(r, u), (r2, u2)]] 6600 fun v => v = pn (cc2 n m f g F G) := by
  have hl := ho.l1
  have hl2 := ho2.l1
  have hn := ho.le
  have hm := ho2.le
  have h0 : chkA [(r, u), (r2, u2)] = 0 := chkA_two.2 ⟨ho.chk, ho2.chk⟩
  refine ct_of (hS 72 (by decide)) fn72 ?_
  refine callq rfl (check2_ct S hS (by omega) (by omega) (by omega) (by omega)) (by omega) ?_
  rintro _ rfl
  rw [h0]
  refine ⟨fun _ => ?_, fun h => absurd rfl h⟩
  refine callq rfl (containsSplit2_ct S hS ho ho2) (by omega) ?_
  rintro _ (⟨hc, rfl⟩ | ⟨hc, rfl⟩)
  · exact endq rfl (by unfold cc2; rw [if_pos hc])
  · exact endq rfl (by unfold cc2; rw [if_neg hc])
theorem fn33 : ctx.fn 33 = some c33 := by kernel_rfl
theorem checkTwo_ok (hS : OldO S) (ho : IsO r u n f f' g g') (ho2 : IsO r2 u2 m F F' G G') : Ct (ctx.plus S) 33 [pO r u, pO r2 u2] 700000 fun v => v = pn (cc2 n m f g F G) := by
  have hl := ho.l1
  have hl2 := ho2.l1
  have hn := ho.le
  have hm := ho2.le
  refine ct_of (hS 33 (by decide)) fn33 ?_
  refine ⟨by omega, by omega, ?_⟩
  refine ⟨_, rfl, ?_⟩
  refine callq rfl (rcheck_ct S hS (by omega) (by omega)) (by omega) ?_
  rintro _ rfl
  rw [ho.chk]
  refine ⟨fun h => absurd rfl h, fun _ => ?_⟩
  refine ⟨_, rfl, ?_⟩
  refine callq rfl (rcheck_ct S hS (by omega) (by omega)) (by omega) ?_
  rintro _ rfl
  rw [ho2.chk]
  refine ⟨fun h => absurd rfl h, fun _ => ?_⟩
  refine ⟨_, rfl, ?_⟩
  refine callq rfl (rconnected_ct S hS ho) (by omega) ?_
  rintro _ (⟨hc, rfl⟩ | ⟨hc, rfl⟩)
  · refine ⟨_, rfl, ?_⟩
    refine callq rfl (rconnected_ct S hS ho2) (by omega) ?_
    rintro _ (⟨hc2, rfl⟩ | ⟨hc2, rfl⟩)
    · exact endq rfl (by unfold cc2; rw [if_pos ⟨hc, hc2⟩])
    · exact endq rfl (by unfold cc2; rw [if_neg (fun h => hc2 h.2)])
  · exact endq rfl (by unfold cc2; rw [if_neg (fun h => hc h.1)])
end
end Go.PI
/- COVERINGS AND ISOMORPHISMS, of the program. -/
open Go.Proofs
namespace Go.PI
open IM
set_option maxRecDepth 10000
set_option maxHeartbeats 4000000
variable (S : FuncId → Option (List AV → Heap → Option (AV × Heap)))
theorem mps_pre {n m : Nat} {f g F G : Nat → Nat} : ∀ {s m' : Nat}, s ≤ m' → ∃ t, mps n m f g F G m' = mps n m f g F G s ++ t
  | s, 0, h => ⟨[], by rw [show s = 0 by omega]; rfl⟩
  | s, k + 1, h => by
    by_cases e : s = k + 1
    · subst e; exact ⟨[], by rw [List.append_nil]⟩
    · obtain ⟨t, ht⟩ := mps_pre (n := n) (m := m) (f := f) (g := g) (F := F) (G := G) (s := s) (m' := k) (by omega)
      exact ⟨t ++ mp1 n m f g F G k, by show mps n m f g F G k ++ mp1 n m f g F G k = _; rw [ht, List.append_assoc]⟩
theorem rng_maps (hS : OldO S) {r u r2 u2 : List Int} {n m d c k : Nat} {f f' g g' F F' G G' : Nat → Nat} (ho : IsO r u n f f' g g') (ho2 : IsO r2 u2 m F F' G G') (hcn : Conn n f g) (hn20 : n ≤ 30) {x : LpD} {σ : List StB} {K : Ex → List StB → Nat → Prop} (Inv : LpD → Nat → List StB → Prop) (Fin : List StB → Prop) (hk : k + 2 + 60 * (1000 + d) ≤ c)
    (hI0 : Inv x 0 (σ ++ [.lp x])) (hskip : ∀ (s : Nat) (σ : List StB), s < m → (∀ h, ¬ MapAt n m s f g F G h) → Inv x s σ → Inv x (s + 1) σ)
    (hy : ∀ (s : Nat) (h : Nat → Nat) (σ' : List StB), s < m → MapAt n m s f g F G h → Inv x s σ' → Cy (ctx.plus S) σ.length [pIs (PL n h)] σ' d fun b σ2 => (b = true ∧ Inv x (s + 1) σ2) ∨ (b = false ∧ Fin σ2))
    (hK : ∀ σ', Inv x m σ' ∨ Fin σ' → rngE σ' σ.length fun e => K e (σ'.set σ.length .dead) (k + 2 + 60 * (1000 + d))) : RngK none (ctx.plus S) c (.fnc 118 [.lptr [pIs r2, pIs u2], .lptr [pIs r, pIs u]]) x σ k K :=
  ⟨118, [.lptr [pIs r2, pIs u2], .lptr [pIs r, pIs u]], .inr rfl, rfl, [], show ∃ _ _, _ ∧ _ ∧ _ from ⟨60 * (1000 + d), _, hk, maps_cm S hS ho ho2 hcn hn20 (Inv x) Fin hy hskip hI0, fun r σ' h => hK σ' h.2⟩⟩
theorem fn32 : ctx.fn 32 = some c32 := by kernel_rfl
theorem covering_ok (hS : OldO S) {r u r2 u2 : List Int} {n m : Nat} {f f' g g' F F' G G' : Nat → Nat} (ho : IsO r u n f f' g g') (ho2 : IsO r2 u2 m F F' G G') (hcn : Con2 n m f g F G) (hn20 : n ≤ 30) :
    Ct (ctx.plus S) 32 [pO r u, pO r2 u2] 80000 fun v => (mps n m f g F G m = [] ∧ v = .tup [.lst 0 [], pn 11]) ∨ ∃ x t, mps n m f g F G m = x :: t ∧ v = .tup [pIs x, pn 0] := by
  have hl := ho.l1
  have hl2 := ho2.l1
  have hn := ho.le
  have hm := ho2.le
  have hcc : cc2 n m f g F G = 0 := by unfold cc2; rw [if_pos hcn]
  refine ct_of (hS 32 (by decide)) fn32 ?_
  refine ⟨by omega, by omega, by omega, by omega, ?_⟩
  refine ⟨_, rfl, ?_⟩
  refine ⟨_, rfl, ?_⟩
  refine ⟨by omega, partc rfl ⟨_, rfl, ?_⟩⟩
  refine cal1 (fz_own (ty := 24) rfl (Nat.le_refl 4) (Nat.le_refl _) rfl) (checkConn2_ok S hS ho ho2) (by omega) ?_
  rintro _ rfl
  rw [hcc]
  refine ⟨fun h => absurd rfl h, fun _ => ?_⟩
  refine ⟨_, rfl, ?_⟩
  refine ⟨_, rfl, ?_⟩
  refine callq rfl (mapsTo_ct S hS) (by omega) ?_
  rintro _ rfl
  refine rng_maps S hS (d := 4) ho ho2 hcn.1 hn20 (fun x s σ' => σ'[2]? = some (.live 22 [.lst 0 []]) ∧ σ'[3]? = some (.live 29 [pn 0]) ∧ σ'[5]? = some (.lp x) ∧ mps n m f g F G s = [])
    (fun σ' => ∃ y X t, σ'[5]? = some (.lp y) ∧ y.st ≠ .busy ∧ y.e = .ret ∧ σ'[2]? = some (.live 22 [pIs X]) ∧ σ'[3]? = some (.live 29 [pn 0]) ∧ mps n m f g F G m = X :: t) (by omega) ?_ ?_ ?_ ?_
  · exact ⟨rfl, rfl, rfl, rfl⟩
  · rintro s σ' hsm hno ⟨g2, g3, g5, hI⟩
    refine ⟨g2, g3, g5, ?_⟩
    show mps n m f g F G s ++ mp1 n m f g F G s = []
    rw [hI, mp1_no hno]; rfl
  · rintro s h σ' hsm hM ⟨g2, g3, g5, hI⟩
    have l5 : 5 < σ'.length := (List.getElem?_eq_some_iff.1 g5).1
    obtain ⟨t, ht⟩ := mps_pre (n := n) (m := m) (f := f) (g := g) (F := F) (G := G) (s := s + 1) (m' := m) (by omega)
    have hs1 : mps n m f g F G (s + 1) = [PL n h] := by
      show mps n m f g F G s ++ mp1 n m f g F G s = _
      rw [hI, mp1_yes ho.pr ho.pu ho.pos hcn.1 hM]; rfl
    rw [hs1] at ht
    have b2 : ∀ y, (σ'.set 5 y)[2]? = some (.live 22 [.lst 0 []]) := fun y => by rw [List.getElem?_set_ne (by omega)]; exact g2
    have b3 : ∀ y, (σ'.set 5 y)[3]? = some (.live 29 [pn 0]) := fun y => by rw [List.getElem?_set_ne (by omega)]; exact g3
    have b5 : ∀ y, (σ'.set 5 y)[5]? = some y := fun y => List.getElem?_set_self l5
    have b23 : ∀ y z, ((σ'.set 5 y).set 2 z)[3]? = some (.live 29 [pn 0]) := fun y z => by rw [List.getElem?_set_ne (by omega)]; exact b3 y
    have b235 : ∀ y z w, (((σ'.set 5 y).set 2 z).set 3 w)[5]? = some y := fun y z w => by rw [List.getElem?_set_ne (by omega), List.getElem?_set_ne (by omega)]; exact b5 y
    refine cy_of Opn.no g5 rfl rfl fun c k hc => ?_
    refine ⟨rfl, _, g5, rfl, ?_⟩
    refine ⟨_, _, b2 _, ⟨rfl, Nat.le_of_ble_eq_true rfl, rfl⟩, _, rfl, _, rfl, ?_⟩
    refine ⟨_, _, b23 _ _, ⟨rfl, Nat.le_of_ble_eq_true rfl, rfl⟩, _, rfl, _, rfl, ?_⟩
    refine ⟨_, b235 _ _ _, by dsimp only; omega, .inr ⟨rfl, _, PL n h, t, List.getElem?_set_self (by simp only [List.length_set]; exact l5), (fun h => by cases h), rfl, ?_, ?_, ht⟩⟩
    · show ((((σ'.set 5 _).set 2 _).set 3 _).set 5 _)[2]? = _
      rw [List.getElem?_set_ne (by omega), List.getElem?_set_ne (by omega), List.getElem?_set_self (by rw [List.length_set]; omega)]
      rfl
    · show ((((σ'.set 5 _).set 2 _).set 3 _).set 5 _)[3]? = _
      rw [List.getElem?_set_ne (by omega), List.getElem?_set_self (by rw [List.length_set, List.length_set]; omega)]
      rfl
  · rintro σ' (⟨g2, g3, g5, hI⟩ | ⟨y, X, t, g5, hy1, hy2, g2, g3, ht⟩)
    · have l5 : 5 < σ'.length := (List.getElem?_eq_some_iff.1 g5).1
      refine ⟨_, g5, (show LoopState.ready ≠ .busy from fun h => by cases h), ?_⟩
      have b2 : ∀ y, (σ'.set 5 y)[2]? = some (.live 22 [.lst 0 []]) := fun y => by rw [List.getElem?_set_ne (by omega)]; exact g2
      have b3 : ∀ y, (σ'.set 5 y)[3]? = some (.live 29 [pn 0]) := fun y => by rw [List.getElem?_set_ne (by omega)]; exact g3
      have b23 : ∀ y z, ((σ'.set 5 y).set 2 z)[3]? = some (.live 29 [pn 0]) := fun y z => by rw [List.getElem?_set_ne (by omega)]; exact b3 y
      refine ⟨_, _, b2 _, ⟨rfl, Nat.le_of_ble_eq_true rfl, rfl⟩, _, rfl, _, rfl, ?_⟩
      refine ⟨_, _, b23 _ _, ⟨rfl, Nat.le_of_ble_eq_true rfl, rfl⟩, _, rfl, _, rfl, ?_⟩
      refine ⟨_, load_c (contOf_live (show (((σ'.set 5 .dead).set 2 _).set 3 _)[2]? = _ by rw [List.getElem?_set_ne (by omega), List.getElem?_set_self (by rw [List.length_set]; omega)])) rfl rfl, ?_⟩
      refine ⟨_, load_c (contOf_live (show (((σ'.set 5 .dead).set 2 _).set 3 _)[3]? = _ by rw [List.getElem?_set_self (by rw [List.length_set, List.length_set]; omega)])) rfl rfl, ?_⟩
      exact endsq rfl (.inl ⟨hI, rfl⟩)
    · refine ⟨_, g5, hy1, ?_⟩
      rw [hy2]
      refine ⟨_, load_c (contOf_live (show (σ'.set 5 .dead)[2]? = _ by rw [List.getElem?_set_ne (by omega)]; exact g2)) rfl rfl, ?_⟩
      refine ⟨_, load_c (contOf_live (show (σ'.set 5 .dead)[3]? = _ by rw [List.getElem?_set_ne (by omega)]; exact g3)) rfl rfl, ?_⟩
      exact endsq rfl (.inr ⟨X, t, ht, rfl⟩)
end Go.PI
