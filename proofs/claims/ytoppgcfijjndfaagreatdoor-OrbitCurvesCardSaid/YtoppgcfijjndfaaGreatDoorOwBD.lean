/- Own work of the verifier: OrCj OrLb OrCk OrCl OrCm. -/
import Derived.Test.YtoppgcfijjndfaaGreatDoorOwBC
import Derived.Test.YtoppgcfijjndfaaGreatDoorOwBB
import Derived.Test.YtoppgcfijjndfaaGreatDoorOwAZ
set_option linter.all false
set_option exponentiation.threshold 3000
set_option linter.deprecated false
/- A SEARCH BY A QUEUE, of the program. -/
open Go.Proofs
namespace Go.PI
open IM
set_option maxRecDepth 10000
set_option maxHeartbeats 4000000
variable (S : FuncId → Option (List AV → Heap → Option (AV × Heap)))
def blkQ : PV → Option Nat
  | .own j _ _ _ _ => some j
  | .ownu j _ _ => some j
  | .ownq j _ _ _ => some j
  | _ => none
def Qu (v : PV) (σ : List StB) (Q : List Int) : Prop :=
  ∃ j o cs, σ[j]? = some (.live 3 cs) ∧ o + Q.length ≤ cs.length ∧ (cs.drop o).take Q.length = Q.map pn ∧ (v = .own j o Q.length Q.length 1 ∨ (v = .ownu j Q.length 1 ∧ o = 0) ∨ v = .ownq j o Q.length 1)
theorem Qu.keep {v : PV} {σ σ' : List StB} {Q : List Int} (h : Qu v σ Q) (k : ∀ j b, blkQ v = some j → σ[j]? = some b → σ'[j]? = some b) : Qu v σ' Q := by
  obtain ⟨j, o, cs, h1, h2, h3, h4⟩ := h
  refine ⟨j, o, cs, k j _ ?_ h1, h2, h3, h4⟩
  rcases h4 with rfl | ⟨rfl, -⟩ | rfl <;> rfl
theorem appQ {c k : Nat} {v : PV} {Q : List Int} {z : Int} {i m : Nat} {ty : TypeId} {σ : List StB} {K : PV → List StB → Nat → Prop} (hg : Qu v σ Q) (hx : contOf σ i = some (ty, [pn z])) (hl : Q.length ≤ 1000000) (hk : k < c)
    (hK : ∀ v' σ', Qu v' σ' (Q ++ [z]) → (∀ j b, blkQ v ≠ some j → σ[j]? = some b → σ'[j]? = some b) → blkQ v' = some σ.length → K v' σ' (k + 1)) : AppK (ctx.plus S) c k σ [43, 43] v (.own i 0 1 1 m) K := by
  refine ⟨?_⟩
  have hti : (ctx.plus S).ty 43 = some t43 := rfl
  have he : (ctx.plus S).ty 3 = some t3 := rfl
  have hd : decide (srcOk t43.desc = true ∧ t3.bytes ≤ 2 ^ 10) = true := rfl
  have htd : t43.desc = .slice 3 := rfl
  have hs : t3.size = 1 := rfl
  unfold pappK
  have e43 : t43 = { desc := .slice 3, size := t43.size, bytes := t43.bytes, zero := t43.zero } := rfl
  rw [e43] at hti hd
  simp only [hti, he]
  simp only [hd]
  refine ⟨ty, [pn z], [pn z], hx, by rw [hs]; simp, by rw [hs]; rfl, ⟨by decide, by simp [pones]; rfl⟩, ?_⟩
  obtain ⟨j, o, cs, h1, h2, h3, h4⟩ := hg
  have hnew : ∀ {σ' : List StB}, σ'.length = σ.length → Qu (.ownu σ.length (Q.length + 1) 1) (σ' ++ [.live 3 (Q.map pn ++ [pn z])]) (Q ++ [z]) := fun {σ'} h =>
    ⟨σ.length, 0, Q.map pn ++ [pn z], by rw [← h]; simp, by simp, by rw [List.drop_zero, List.take_of_length_le (by simp)]; simp, .inr (.inl ⟨by simp, rfl⟩)⟩
  have hold : ∀ {b : StB} {j : Nat} {x : StB}, σ[j]? = some x → (σ ++ [b])[j]? = some x := fun h => by rw [List.getElem?_append_left (List.getElem?_eq_some_iff.1 h).1]; exact h
  have hset : ∀ {b : StB} (j' : Nat) (x : StB), j ≠ j' → σ[j']? = some x → (σ.set j .dead ++ [b])[j']? = some x := fun {b} j' x hne hb => by
    rw [List.getElem?_append_left (by rw [List.length_set]; exact (List.getElem?_eq_some_iff.1 hb).1), List.getElem?_set_ne hne]
    exact hb
  rcases h4 with rfl | ⟨rfl, rfl⟩ | rfl
  · refine ⟨by omega, (fun h => by omega), fun _ => ⟨hk, 3, cs, Q.map pn ++ [pn z], contOf_live h1, by rw [hs]; omega, by rw [hs, Nat.mul_one, h3], ?_⟩⟩
    rw [hs]
    exact hK _ _ (hnew rfl) (fun j b _ hb => hold hb) rfl
  · refine ⟨⟨by omega, hs.symm, hk⟩, cs, Q.map pn ++ [pn z], h1, by rw [hs]; omega, by rw [hs, Nat.mul_one, ← h3, List.drop_zero], ?_⟩
    exact hK _ _ (hnew (by simp)) (fun j' b hj hb => hset j' b (fun e => hj (by rw [← e]; rfl)) hb) rfl
  · refine ⟨⟨⟨by omega, hs.symm, hk⟩, rfl⟩, cs, Q.map pn ++ [pn z], h1, by rw [hs]; omega, by rw [hs, Nat.mul_one, h3], ?_⟩
    exact hK _ _ (hnew (by simp)) (fun j' b hj hb => hset j' b (fun e => hj (by rw [← e]; rfl)) hb) rfl
theorem Qu.tail {j o : Nat} {σ : List StB} {Q : List Int} {a : Int} {cs : List PV} {v : PV} (h1 : σ[j]? = some (.live 3 cs)) (h2 : o + (a :: Q).length ≤ cs.length) (h3 : (cs.drop o).take (a :: Q).length = (a :: Q).map pn) (hv : v = .own j (if (a :: Q).length = 1 then o else o + 1) Q.length Q.length 1 ∨ v = .ownq j (o + 1) Q.length 1) : Qu v σ Q := by
  simp only [List.length_cons] at h2 h3 hv
  have h3' : (cs.drop (o + 1)).take Q.length = Q.map pn := by
    have := congrArg (List.drop 1) h3
    rw [List.drop_take, List.drop_drop] at this
    simpa using this
  rcases hv with hv | hv
  · by_cases e : Q.length + 1 = 1
    · rw [if_pos e] at hv
      have hq : Q = [] := List.length_eq_zero_iff.1 (by omega)
      subst hq
      exact ⟨j, o, cs, h1, by omega, by simp, .inl hv⟩
    · rw [if_neg e] at hv
      exact ⟨j, o + 1, cs, h1, by omega, h3', .inl hv⟩
  · exact ⟨j, o + 1, cs, h1, by omega, h3', .inr (.inr hv)⟩
theorem cal2f {dr : Bool} {C : Ctx} {c k d : Nat} {σ σ1 σ2 : List StB} {g : FuncId} {K : PV → List StB → Nat → Prop} {v w p q : PV} {Q : TypeId → Nat → Nat → Nat → List PV → Prop} (h1 : Fz v σ p σ1) (h2 : Fz w σ1 q σ2) (h : Cfr C g [p, q] d Q) (hk : k + d ≤ c) (hK : ∀ ty n cp e cs, Q ty n cp e cs → K (.own σ2.length 0 n cp e) (σ2 ++ [.live ty cs]) (k + d)) : ArgK dr C c k σ g [v, w] K :=
  ⟨.inl (h1 _ (h2 _ ⟨⟨d, hk, .inr (.inl ⟨Q, h, hK⟩)⟩⟩))⟩
theorem fn153 : ctx.fn 153 = some c153 := by kernel_rfl
theorem fz_ints1 {i : Nat} {a : Int} {ty : TypeId} {σ : List StB} (h : contOf σ i = some (ty, [pn a])) : Fz (.own i 0 1 1 1) σ (pIs [a]) (σ.set i (.frz ty [pn a])) := fz_own h (Nat.le_refl _) (Nat.le_refl _) rfl
theorem distances_ct (hS : OldO S) (hM : MulOk S) {L : List (List Int × List Int)} {X Y : List Int} {n s : Nat} {x y : Nat → Nat} (hn : n ≤ 2000) (hs : s < n) (hL : L.length = n) (hX : ∀ w, w < n → X[w]? = some (x w : Int) ∧ x w < n) (hY : ∀ w, w < n → Y[w]? = some (y w : Int) ∧ y w < n) (hXl : X.length = n) (hYl : Y.length = n) :
    Ct (ctx.plus S) 153 [pB L X Y, pn s] 10000 fun v => ∃ D, v = pIs D ∧ BF n s x y D [] := by
  subst hL
  refine ct_of (hS 153 (by decide)) fn153 ?_
  refine ⟨by omega, ?_⟩
  refine ⟨by omega, partc rfl ⟨_, rfl, ?_⟩⟩
  refine ⟨_, rfl, ?_⟩
  refine cal2f (fz_ints1 rfl) fzI (repeatI_cf S (hS 198 (by decide)) hM (a := -1) (n := L.length) (by omega) hn) (by omega) ?_
  rintro ty _ cp e cs ⟨rfl, rfl, rfl, rfl, rfl⟩
  have hrl : (List.replicate L.length (-1 : Int)).length = L.length := by simp
  refine ⟨⟨by omega, by omega⟩, ?_⟩
  refine ⟨_, _, rfl, ⟨rfl, by rw [List.length_map, hrl]; show 0 + (s : Int).toNat * 1 + 1 ≤ _; omega, rfl⟩, _, int_put (j := s) (by show 0 + (s : Int).toNat * 1 = s; omega) (by omega), _, rfl, ?_⟩
  refine ⟨by omega, partc rfl ⟨_, rfl, ?_⟩⟩
  have hc0 := cnt_set (D := List.replicate L.length (-1 : Int)) (z := s) (a := 0) (by simp [hs]) (by decide)
  have hcn : (List.replicate L.length (-1 : Int)).count (-1) = L.length := List.count_replicate_self
  refine ⟨fun q s' => ∃ (D Q : List Int) (v : PV) (σ : List StB) (b : Nat) (T : List PV), s' = ⟨T, σ, b⟩ ∧ Gt T 61 [(2, .optr 0 0), (5, .own 2 0 L.length L.length 1), (6, v)] ∧ q = 2 * D.count (-1) + Q.length ∧ b + 2 * D.count (-1) ≤ 20 + 2 * L.length ∧ Hid (BF L.length s x y D Q ∧ (σ[0]? = some (.live 56 [pOs L, pIs X, pIs Y]) ∧ σ[2]? = some (.live 3 (D.map pn))) ∧ Qu v σ Q ∧ (blkQ v ≠ some 0 ∧ blkQ v ≠ some 2)), ⟨_, ci ⟨_, [(s : Int)], _, _, _, _, rfl, ⟨rfl, rfl, rfl, rfl, trivial⟩, rfl, by omega, ⟨BF.init rfl hs, ⟨rfl, rfl⟩, ⟨3, 0, [pn s], rfl, by simp, rfl, .inl rfl⟩, (fun h => by cases h), (fun h => by cases h)⟩⟩⟩, ?_⟩
  rintro _ s' ⟨D, Q, v, σ, b, T, rfl, hT, rfl, hb, hh⟩
  obtain ⟨J, rfl⟩ := gt_open hT
  clear hT
  obtain ⟨hB, ⟨s0, s2⟩, hQ, v0, v2⟩ := hh.h
  clear hh
  obtain ⟨j, o, cs, h1, h2, h3, h4⟩ := hQ
  rcases h4 with rfl | ⟨rfl, rfl⟩ | rfl
  all_goals
    refine ⟨fun hlt => ?_, fun hge => ?_⟩
    · obtain ⟨a, Q', rfl⟩ : ∃ a Q', Q = a :: Q' := by
        cases Q with
        | nil => exact absurd hlt (by decide)
        | cons a Q' => exact ⟨a, Q', rfl⟩
      have hv0 : cs[_]? = some (pn a) := (by
        have := congrArg (fun l => l[0]?) h3
        simpa [List.getElem?_take, List.getElem?_drop] using this)
      obtain ⟨w, rfl, d, hwd, hd⟩ := hB.q a (by simp)
      have hw : w < L.length := by have := (List.getElem?_eq_some_iff.1 hwd).1; rw [hB.len] at this; exact this
      obtain ⟨x1, x2⟩ := hX w hw
      obtain ⟨y1, y2⟩ := hY w hw
      refine ⟨⟨by omega, by simp only [List.length_cons]; omega⟩, ?_⟩
      refine ⟨_, load_k rfl rfl (contOf_live h1) hv0 rfl, ?_⟩
      refine ⟨by kernel_rfl, ?_⟩
      refine ⟨_, load_k rfl rfl (contOf_live s0) (show [pOs L, pIs X, pIs Y][1]? = some (pIs X) from rfl) rfl, rfl, ?_⟩
      refine ⟨⟨⟨by omega, by omega⟩, len_map_le (by omega)⟩, ?_⟩
      refine ⟨_, ld (at_map x1) (by show _ * 1 = w; omega), rfl, ?_⟩
      refine ⟨_, load_k rfl rfl (contOf_live s0) (show [pOs L, pIs X, pIs Y][2]? = some (pIs Y) from rfl) rfl, rfl, ?_⟩
      refine ⟨⟨⟨by omega, by omega⟩, len_map_le (by omega)⟩, ?_⟩
      refine ⟨_, ld (at_map y1) (by show _ * 1 = w; omega), rfl, ?_⟩
      refine partc rfl ⟨_, rfl, ?_⟩
      have hrx : Rch x y s (x w) := .f (hB.rc w d hwd hd)
      have hry : Rch x y s (y w) := .g (hB.rc w d hwd hd)
      obtain ⟨c0, hc0e⟩ : ∃ c0, c0 = 2 * D.count (-1) + ((w : Int) :: Q').length := ⟨_, rfl⟩
      refine ⟨fun q s' => ∃ (k : Nat) (D Q : List Int) (v : PV) (σ : List StB) (b : Nat) (T : List PV), s' = ⟨T, σ, b⟩ ∧ Gt T 61 [(2, .optr 0 0), (5, .own 2 0 L.length L.length 1), (6, v), (7, pn w), (38, .agg [pn (x w), pn (y w)]), (39, pn k)] ∧ q = 2 - k ∧ k ≤ 2 ∧ b + 2 * D.count (-1) ≤ 20 + 2 * L.length ∧ 2 * D.count (-1) + ((w : Int) :: Q).length ≤ c0 ∧ Hid (BF L.length s x y D ((w : Int) :: Q) ∧ (σ[0]? = some (.live 56 [pOs L, pIs X, pIs Y]) ∧ σ[2]? = some (.live 3 (D.map pn))) ∧ Qu v σ ((w : Int) :: Q) ∧ (blkQ v ≠ some 0 ∧ blkQ v ≠ some 2) ∧ (∃ d : Int, D[w]? = some d ∧ 0 ≤ d) ∧ (1 ≤ k → ∃ e : Int, D[x w]? = some e ∧ 0 ≤ e) ∧ (2 ≤ k → ∃ e : Int, D[y w]? = some e ∧ 0 ≤ e)), ⟨_, ci ⟨0, D, Q', _, _, _, _, rfl, ⟨rfl, rfl, rfl, rfl, rfl, rfl, rfl, trivial⟩, rfl, Nat.zero_le _, hb, by omega, ⟨hB, ⟨s0, s2⟩, ⟨j, _, cs, h1, h2, h3, by first | exact .inl rfl | exact .inr (.inl ⟨rfl, rfl⟩) | exact .inr (.inr rfl)⟩, ⟨v0, v2⟩, ⟨d, hwd, hd⟩, (fun h => by omega), (fun h => by omega)⟩⟩⟩, ?_⟩
      clear h1 h2 h3 v0 v2 hv0 hlt s0 s2 hB hwd hd hb
      clear d
      rintro _ s' ⟨k, D, Q, v, σ, b, T, rfl, hT, rfl, hk, hb, hm, hh⟩
      obtain ⟨J, rfl⟩ := gt_open hT
      clear hT
      obtain ⟨hB, ⟨s0, s2⟩, hQ, ⟨v0, v2⟩, ⟨d, hwd, hd⟩, hc1, hc2⟩ := hh.h
      clear hh
      refine ⟨fun hlt => ?_, fun hge => ?_⟩
      · obtain ⟨z, hz1, hz, hrz, hz3⟩ : ∃ z : Nat, partP t3 [pn (x w), pn (y w)] ((k : Int).toNat * 1) = some (pn z) ∧ z < L.length ∧ Rch x y s z ∧ ((k = 0 ∧ z = x w) ∨ (k = 1 ∧ z = y w)) := by
          rcases (show k = 0 ∨ k = 1 by omega) with rfl | rfl
          · exact ⟨x w, rfl, x2, hrx, .inl ⟨rfl, rfl⟩⟩
          · exact ⟨y w, rfl, y2, hry, .inr ⟨rfl, rfl⟩⟩
        obtain ⟨e, he⟩ : ∃ e, D[z]? = some e := ⟨_, List.getElem?_eq_getElem (by rw [hB.len]; exact hz)⟩
        have hbe := hB.bd z e he
        have hbd := hB.bd w d hwd
        refine ⟨⟨by omega, by omega⟩, _, hz1, ?_⟩
        refine ⟨⟨by omega, by omega⟩, ?_⟩
        refine ⟨_, load_k rfl rfl (contOf_live s2) (at_map he) (by show 0 + z * 1 = z; omega), ?_⟩
        refine ⟨fun h => ?_, fun h => ?_⟩
        · subst h
          refine ⟨⟨by omega, by omega⟩, ?_⟩
          refine ⟨_, load_k rfl rfl (contOf_live s2) (at_map hwd) (by show 0 + w * 1 = w; omega), ?_⟩
          refine ⟨⟨by omega, by omega⟩, ?_⟩
          refine ⟨⟨by omega, by omega⟩, ?_⟩
          refine ⟨_, _, s2, ⟨rfl, by rw [List.length_map, hB.len]; show 0 + z * 1 + 1 ≤ _; omega, rfl⟩, _, int_put (j := z) (by show 0 + z * 1 = z; omega) (by rw [hB.len]; exact hz), _, rfl, ?_⟩
          refine ⟨by omega, partc rfl ⟨_, rfl, ?_⟩⟩
          have l2 : 2 < σ.length := (List.getElem?_eq_some_iff.1 s2).1
          have hcs := cnt_set he (a := d + 1) (by omega)
          have hold : ∀ (j : Nat) (b : StB), j ≠ 2 → σ[j]? = some b → (σ.set 2 (StB.live 3 ((D.set z (d + 1)).map pn)) ++ [StB.live 3 [pn z]])[j]? = some b := fun j b hj hb => by
            rw [List.getElem?_append_left (by rw [List.length_set]; exact (List.getElem?_eq_some_iff.1 hb).1), List.getElem?_set_ne (Ne.symm hj)]
            exact hb
          have hnew : (σ.set 2 (StB.live 3 ((D.set z (d + 1)).map pn)) ++ [StB.live 3 [pn z]])[2]? = some (.live 3 ((D.set z (d + 1)).map pn)) := by
            rw [List.getElem?_append_left (by rw [List.length_set]; exact l2), List.getElem?_set_self l2]
          have hQ1 := hQ.keep fun j b hj hb => hold j b (fun e => v2 (by rw [hj, e])) hb
          have hql := hB.ql
          refine appQ S hQ1 (contOf_live (push_get' rfl)) (by omega) (by omega) ?_
          intro v' σ' g1 g2 g3
          have hl' : (σ.set 2 (StB.live 3 ((D.set z (d + 1)).map pn)) ++ [StB.live 3 [pn z]]).length = σ.length + 1 := by simp
          have h3l : 3 ≤ (σ.set 2 (StB.live 3 ((D.set z (d + 1)).map pn)) ++ [StB.live 3 [pn z]]).length := by rw [hl']; omega
          obtain ⟨mm, g4, g5⟩ : ∃ mm, blkQ v' = some mm ∧ 3 ≤ mm := ⟨_, g3, h3l⟩
          have hkeep : ∀ {q : Nat} {e' : Int}, D[q]? = some e' → 0 ≤ e' → (D.set z (d + 1))[q]? = some e' := fun hq he' => hB.keep he hq he'
          have hzz : (D.set z (d + 1))[z]? = some (d + 1) := List.getElem?_set_self (by rw [hB.len]; exact hz)
          refine ⟨⟨by omega, by omega⟩, ?_⟩
          refine ⟨_, by omega, ci ⟨k + 1, D.set z (d + 1), Q ++ [(z : Int)], v', σ', _, _, rfl, ⟨rfl, rfl, rfl, rfl, rfl, rfl, rfl, trivial⟩, rfl, by omega, by omega, by simp only [List.length_cons, List.length_append, List.length_nil] at hm ⊢; omega, ⟨hB.put he hrz hwd hd, ⟨g2 0 _ v0 (hold 0 _ (by decide) s0), g2 2 _ v2 hnew⟩, g1, ⟨fun e => ?_, fun e => ?_⟩, ⟨d, hkeep hwd hd, hd⟩, fun h1 => ?_, fun h1 => ?_⟩⟩⟩
          · rw [g4] at e; have := Option.some.inj e; omega
          · rw [g4] at e; have := Option.some.inj e; omega
          · rcases hz3 with ⟨rfl, rfl⟩ | ⟨rfl, rfl⟩
            · exact ⟨d + 1, hzz, by omega⟩
            · obtain ⟨e', a1, a2⟩ := hc1 (by omega)
              exact ⟨e', hkeep a1 a2, a2⟩
          · rcases hz3 with ⟨rfl, rfl⟩ | ⟨rfl, rfl⟩
            · omega
            · exact ⟨d + 1, hzz, by omega⟩
        · have he0 : 0 ≤ e := by omega
          refine ⟨⟨by omega, by omega⟩, ?_⟩
          refine ⟨_, by omega, ci ⟨k + 1, D, Q, v, σ, _, _, rfl, ⟨rfl, rfl, rfl, rfl, rfl, rfl, rfl, trivial⟩, rfl, by omega, hb, hm, ⟨hB, ⟨s0, s2⟩, hQ, ⟨v0, v2⟩, ⟨d, hwd, hd⟩, fun h1 => ?_, fun h1 => ?_⟩⟩⟩
          · rcases hz3 with ⟨rfl, rfl⟩ | ⟨rfl, rfl⟩
            · exact ⟨e, he, he0⟩
            · exact hc1 (by omega)
          · rcases hz3 with ⟨rfl, rfl⟩ | ⟨rfl, rfl⟩
            · omega
            · exact ⟨e, he, he0⟩
      · have hk2 : k = 2 := by omega
        subst hk2
        have hB' := hB.pop (hc1 (by omega)) (hc2 (by omega))
        obtain ⟨j, o, cs, h1, h2, h3, h4⟩ := hQ
        rcases h4 with rfl | ⟨rfl, rfl⟩ | rfl
        · refine ⟨Nat.le_refl _, ⟨by omega, by simp only [List.length_cons]; omega⟩, _, rfl, ?_⟩
          refine ⟨_, by simp only [List.length_cons] at hm hc0e ⊢; omega, ci ⟨D, Q, _, σ, b, _, rfl, ⟨rfl, rfl, rfl, rfl, trivial⟩, rfl, hb, ⟨hB', ⟨s0, s2⟩, Qu.tail h1 h2 h3 (.inl ?_), v0, v2⟩⟩⟩
          simp only [List.length_cons]
          rfl
        · refine ⟨rfl, ⟨by omega, by simp only [List.length_cons]; omega⟩, ?_⟩
          refine ⟨_, by simp only [List.length_cons] at hm hc0e ⊢; omega, ci ⟨D, Q, _, σ, b, _, rfl, ⟨rfl, rfl, rfl, rfl, trivial⟩, rfl, hb, ⟨hB', ⟨s0, s2⟩, Qu.tail h1 h2 h3 (.inr ?_), v0, v2⟩⟩⟩
          simp only [List.length_cons]
          rfl
        · refine ⟨rfl, ⟨by omega, by simp only [List.length_cons]; omega⟩, ?_⟩
          refine ⟨_, by simp only [List.length_cons] at hm hc0e ⊢; omega, ci ⟨D, Q, _, σ, b, _, rfl, ⟨rfl, rfl, rfl, rfl, trivial⟩, rfl, hb, ⟨hB', ⟨s0, s2⟩, Qu.tail h1 h2 h3 (.inr ?_), v0, v2⟩⟩⟩
          simp only [List.length_cons]
          rfl
    · have hqn : Q = [] := List.length_eq_zero_iff.1 (by omega)
      subst hqn
      exact endf (fz_ints (xs := D) (contOf_live s2) hB.len) ⟨D, rfl, hB⟩
end Go.PI
/- THE LABEL, of the reference. -/
open Go.Proofs
namespace Go.PI
open IM
set_option maxRecDepth 10000
set_option maxHeartbeats 4000000
variable (S : FuncId → Option (List AV → Heap → Option (AV × Heap)))
theorem fn38 : ctx.fn 38 = some c38 := by kernel_rfl
noncomputable def lab (n : Nat) (o : O4) : PV := pO (Rs o.f o.g n (bst o.f o.g n n)) (Us o.f o.g n (bst o.f o.g n n))
theorem rlab_ct (hS : OldO S) {n : Nat} {o : O4} (h0 : 0 < n) (hn : n ≤ 60) (h : o.Ok n) (hc : Conn n o.f o.g) : Ct (ctx.plus S) 38 [p4 n o] 100010 fun w => w = lab n o := by
  have hO : IsO (PL n o.f) (PL n o.g) n o.f o.f' o.g o.g' := ⟨h0, hn, rfl, rfl, h.pr, h.pu⟩
  refine ct_of (hS 38 (by decide)) fn38 ?_
  refine ⟨by omega, by omega, ?_⟩
  refine ⟨_, rfl, ?_⟩
  refine callq rfl (rlabel_ct S hS hO hc) (by omega) ?_
  rintro _ rfl
  refine ⟨by omega, ?_⟩
  refine ⟨_, _, push_get, ⟨rfl, Nat.le_refl 2, rfl⟩, _, rfl, _, rfl, ?_⟩
  refine ⟨_, rfl, ?_⟩
  refine ⟨_, _, rfl, ⟨rfl, Nat.le_refl 2, rfl⟩, _, rfl, _, rfl, ?_⟩
  exact ⟨_, rfl, endq rfl rfl⟩
end Go.PI
/- ORBITS THAT ARE GIVEN: what is wrong with them. -/
open Go.Proofs
namespace Go.PI
open IM
abbrev OL := List (List Int × List Int)
def memO (L : OL) (i : Nat) : List Int × List Int := L.getD i ([], [])
theorem memO_get {L : OL} {i : Nat} (h : i < L.length) : L[i]? = some (memO L i) := by
  unfold memO
  rw [List.getD_eq_getElem?_getD, List.getElem?_eq_getElem h]; rfl
noncomputable def okM (L : OL) (i : Nat) : Int := okO (memO L 0).1.length (if i = 0 then none else some (memO L (i - 1))) (memO L i).1 (memO L i).2
theorem okO_zero {n0 : Nat} {q : Option (List Int × List Int)} {r u : List Int} (h : okO n0 q r u = 0) : ∃ h : chkO r u = 0, r.length = n0 ∧ Conn (ow h).n (ow h).f (ow h).g ∧ ((ow h).R = r ∧ (ow h).U = u) ∧ ∀ p, q = some p → Lt (p.1 ++ p.2) (r ++ u) := by
  by_cases h0 : chkO r u = 0
  · by_cases h1 : r.length = n0
    · by_cases h2 : Conn (ow h0).n (ow h0).f (ow h0).g
      · by_cases h3 : (ow h0).R = r ∧ (ow h0).U = u
        · refine ⟨h0, h1, h2, h3, fun p hp => ?_⟩
          by_cases h4 : Lt (p.1 ++ p.2) (r ++ u)
          · exact h4
          · rw [hp, okO_not h0 h1 h2 h3 h4] at h; cases h
        · rw [okO_lab h0 h1 h2 h3] at h; cases h
      · rw [okO_con h0 h1 h2] at h; cases h
    · rw [okO_len h0 h1] at h; cases h
  · rw [okO_bad h0] at h; exact absurd h h0
structure AllOk (L : OL) (n : Nat) (o : Nat → O4) : Prop where
  pos : 0 < n
  le : n ≤ 60
  ok : ∀ i, i < L.length → (o i).Ok n
  con : ∀ i, i < L.length → Conn n (o i).f (o i).g
  eq : ∀ i, i < L.length → L[i]? = some (PL n (o i).f, PL n (o i).g)
  asc : ∀ i, i + 1 < L.length → Lt ((memO L i).1 ++ (memO L i).2) ((memO L (i + 1)).1 ++ (memO L (i + 1)).2)
theorem allOk {L : OL} (hN : 0 < L.length) (h : ∀ i, i < L.length → okM L i = 0) : ∃ n o, AllOk L n o := by
  have key : ∀ i, i < L.length → ∃ o : O4, 0 < (memO L 0).1.length ∧ (memO L 0).1.length ≤ 60 ∧ o.Ok (memO L 0).1.length ∧ Conn (memO L 0).1.length o.f o.g ∧ L[i]? = some (PL (memO L 0).1.length o.f, PL (memO L 0).1.length o.g) := fun i hi => by
    obtain ⟨h0, h1, h2, h3, h4⟩ := okO_zero (h i hi)
    obtain ⟨w, hw⟩ : ∃ w, w = ow h0 := ⟨_, rfl⟩
    rw [← hw] at h2
    have hn : w.n = (memO L 0).1.length := by
      have e := congrArg List.length w.h.hr
      rw [PL_len] at e
      omega
    rw [← hn]
    refine ⟨⟨w.f, w.f', w.g, w.g'⟩, w.h.pos, w.h.le, ⟨w.h.pr, w.h.pu⟩, h2, ?_⟩
    rw [memO_get hi, ← w.h.hr, ← w.h.hu]
  have hch : ∀ i, ∃ o : O4, i < L.length → 0 < (memO L 0).1.length ∧ (memO L 0).1.length ≤ 60 ∧ o.Ok (memO L 0).1.length ∧ Conn (memO L 0).1.length o.f o.g ∧ L[i]? = some (PL (memO L 0).1.length o.f, PL (memO L 0).1.length o.g) := fun i => by
    by_cases hi : i < L.length
    · obtain ⟨o, ho⟩ := key i hi
      exact ⟨o, fun _ => ho⟩
    · exact ⟨⟨id, id, id, id⟩, fun h => absurd h hi⟩
  obtain ⟨o, ho⟩ := Classical.axiomOfChoice hch
  refine ⟨(memO L 0).1.length, o, (ho 0 hN).1, (ho 0 hN).2.1, fun i hi => (ho i hi).2.2.1, fun i hi => (ho i hi).2.2.2.1, fun i hi => (ho i hi).2.2.2.2, fun i hi => ?_⟩
  obtain ⟨-, -, -, -, h4⟩ := okO_zero (h (i + 1) hi)
  exact h4 (memO L i) (by rw [if_neg (by omega)]; rfl)
noncomputable def labP (n : Nat) (o : O4) : List Int × List Int := (Rs o.f o.g n (bst o.f o.g n n), Us o.f o.g n (bst o.f o.g n n))
def ixN (X : List Int) (w : Nat) : Nat := (X.getD w 0).toNat
def Rg (L : OL) (X : List Int) : Prop := ∀ k ∈ X, 0 ≤ k ∧ k ≤ (L.length : Int) - 1
def Img (L : OL) (X Y : List Int) (n : Nat) (o : Nat → O4) (w : Nat) : Prop := L[ixN X w]? = some (labP n (o w).S) ∧ L[ixN Y w]? = some (labP n (o w).T)
def Bad0 (L : OL) (X Y : List Int) : Prop := L.length = 0 ∨ X.length ≠ L.length ∨ Y.length ≠ L.length
def Ans2 (L : OL) (X Y : List Int) (n : Nat) (o : Nat → O4) (e : Int) : Prop :=
  (¬ (Rg L X ∧ Rg L Y) ∧ e = 2) ∨ ((Rg L X ∧ Rg L Y) ∧ ¬ (∀ w, w < L.length → Img L X Y n o w) ∧ e = 18) ∨
    ((Rg L X ∧ Rg L Y) ∧ (∀ w, w < L.length → Img L X Y n o w) ∧ ¬ (∀ w, w < L.length → Rch (ixN X) (ixN Y) 0 w) ∧ e = 18) ∨
    ((Rg L X ∧ Rg L Y) ∧ (∀ w, w < L.length → Img L X Y n o w) ∧ (∀ w, w < L.length → Rch (ixN X) (ixN Y) 0 w) ∧ e = 0)
def Ans (L : OL) (X Y : List Int) (n : Nat) (o : Nat → O4) (e : Int) : Prop :=
  (Bad0 L X Y ∧ e = 10) ∨ (¬ Bad0 L X Y ∧ ∃ i, i < L.length ∧ okM L i ≠ 0 ∧ (∀ j, j < i → okM L j = 0) ∧ e = okM L i) ∨ (¬ Bad0 L X Y ∧ (∀ i, i < L.length → okM L i = 0) ∧ Ans2 L X Y n o e)
theorem ans2_one {L : OL} {X Y : List Int} {n : Nat} {o : Nat → O4} {e e' : Int} (h : Ans2 L X Y n o e) (h' : Ans2 L X Y n o e') : e = e' := by
  unfold Ans2 at h h'
  rcases h with ⟨a, rfl⟩ | ⟨a, b, rfl⟩ | ⟨a, b, c, rfl⟩ | ⟨a, b, c, rfl⟩ <;> rcases h' with ⟨a', rfl⟩ | ⟨a', b', rfl⟩ | ⟨a', b', c', rfl⟩ | ⟨a', b', c', rfl⟩ <;> first | rfl | contradiction
theorem ans_one {L : OL} {X Y : List Int} {n : Nat} {o : Nat → O4} {e e' : Int} (h : Ans L X Y n o e) (h' : Ans L X Y n o e') : e = e' := by
  unfold Ans at h h'
  rcases h with ⟨a, rfl⟩ | ⟨a, i, hi, h1, h2, rfl⟩ | ⟨a, b, c⟩ <;> rcases h' with ⟨a', rfl⟩ | ⟨a', i', hi', h1', h2', rfl⟩ | ⟨a', b', c'⟩
  · rfl
  · contradiction
  · contradiction
  · contradiction
  · rcases Nat.lt_trichotomy i i' with h | rfl | h
    · exact absurd (h2' i h) h1
    · rfl
    · exact absurd (h2 i' h) h1'
  · exact absurd (b' i hi) h1
  · contradiction
  · exact absurd (b i' hi') h1'
  · exact ans2_one c c'
theorem ix_at {L : OL} {X : List Int} (hl : X.length = L.length) (hr : Rg L X) {w : Nat} (hw : w < L.length) : X[w]? = some (ixN X w : Int) ∧ ixN X w < L.length := by
  have hx : X[w]? = some (X.getD w 0) := by rw [List.getD_eq_getElem?_getD, List.getElem?_eq_getElem (by omega)]; rfl
  have hb := hr _ (List.mem_of_getElem? hx)
  unfold ixN
  exact ⟨by rw [hx]; congr 1; omega, by omega⟩
theorem asc_lt {L : OL} {n : Nat} {o : Nat → O4} (h : AllOk L n o) {i : Nat} : ∀ {k : Nat}, i + k + 1 < L.length → Lt ((memO L i).1 ++ (memO L i).2) ((memO L (i + k + 1)).1 ++ (memO L (i + k + 1)).2)
  | 0, hk => h.asc i hk
  | k + 1, hk => lt_trans (asc_lt h (k := k) (by omega)) (h.asc (i + k + 1) hk)
theorem mem_one {L : OL} {n : Nat} {o : Nat → O4} (h : AllOk L n o) {i j : Nat} (hj : j < L.length) (hij : i < j) : memO L i ≠ memO L j := fun e => by
  have := asc_lt h (i := i) (k := j - i - 1) (by omega)
  rw [show i + (j - i - 1) + 1 = j by omega, e] at this
  exact lt_irr this
end Go.PI
/- THE IMAGES of an orbit that is given, checked by the program. -/
open Go.Proofs
namespace Go.PI
open IM
set_option maxRecDepth 10000
set_option maxHeartbeats 4000000
variable (S : FuncId → Option (List AV → Heap → Option (AV × Heap)))
theorem contOf_frz {σ : List StB} {j : Nat} {t : TypeId} {cs : List PV} (h : σ[j]? = some (.frz t cs)) : contOf σ j = some (t, cs) := by unfold contOf; rw [h]; rfl
theorem rg_of {L : OL} {X : List Int} (h : ∀ x ∈ X, (!decide (0 ≤ x ∧ x ≤ (L.length : Int) - 1)) = false) : Rg L X := fun k hk => by
  have := h k hk
  simpa using this
theorem rg_not {L : OL} {X : List Int} (h : ∃ x ∈ X, (!decide (0 ≤ x ∧ x ≤ (L.length : Int) - 1)) = true) : ¬ Rg L X := fun hr => by
  obtain ⟨x, hx, h1⟩ := h
  rw [decide_eq_true (hr x hx)] at h1
  cases h1
theorem load_agg {σ : List StB} {j o : Nat} {t t' : TypeId} {i : TI} {cs : List PV} {v : PV} (hi : (ctx.plus S).ty t = some i) (hc : contOf σ j = some (t', cs)) (hv : partP i cs o = some v) : ploadE (ctx.plus S) σ t (.optr j o) = some v := by
  unfold ploadE
  rw [hi]
  simp only [hc]
  exact hv
theorem cont_old {σ : List StB} {b : StB} {j : Nat} {x : TypeId × List PV} (h : contOf σ j = some x) : contOf (σ ++ [b]) j = some x := by
  have := contOf_lt h
  unfold contOf at h ⊢
  rw [List.getElem?_append_left this]
  exact h
theorem fn95 : ctx.fn 95 = some c95 := by kernel_rfl
theorem checkImages_ct (hS : OldO S) (hM : MulOk S) {L : OL} {X Y : List Int} {n : Nat} {o : Nat → O4} (hA : AllOk L n o) (hN0 : 0 < L.length) (hN : L.length ≤ 30) (hXl : X.length = L.length) (hYl : Y.length = L.length) :
    Ct (ctx.plus S) 95 [pB L X Y] 300000000 fun w => ∃ e : Int, w = pn e ∧ Ans2 L X Y n o e := by
  have cf := fun (Z : List Int) (hz : Z.length ≤ 1000000) => containsFuncB_ct S hS (g := 150) (cs := [.lptr [pOs L, pIs X, pIs Y]]) (xs := Z) (d := 0) (P := fun k => !decide (0 ≤ k ∧ k ≤ (L.length : Int) - 1)) rfl hz fun x _ => foreign_ct S hS (by omega)
  refine ct_of (hS 95 (by decide)) fn95 ?_
  refine ⟨by omega, ?_⟩
  refine ⟨_, rfl, ?_⟩
  refine cal2 (fzL) (fz_fnc1 rfl) (cf X (by omega)) (by omega) ?_
  rintro _ (⟨h1, rfl⟩ | ⟨h1, rfl⟩)
  · exact endq rfl ⟨2, rfl, .inl ⟨fun h => rg_not h1 h.1, rfl⟩⟩
  have rX := rg_of h1
  refine ⟨_, rfl, ?_⟩
  refine cal2 (fzL) (fz_fnc1 rfl) (cf Y (by omega)) (by omega) ?_
  rintro _ (⟨h2, rfl⟩ | ⟨h2, rfl⟩)
  · exact endq rfl ⟨2, rfl, .inl ⟨fun h => rg_not h2 h.2, rfl⟩⟩
  have rY := rg_of h2
  refine ⟨_, rfl, ?_⟩
  refine ⟨fun m s => ∃ (w b : Nat) (σ : List StB) (T : List PV), s = ⟨T, σ, b⟩ ∧ Gt T 65 [(1, .optr 0 0), (21, pOs L), (22, pn L.length), (23, pn w)] ∧ m = L.length - w ∧ w ≤ L.length ∧ b ≤ 200 + w * 5000000 ∧ Hid (σ[0]? = some (.frz 56 [pOs L, pIs X, pIs Y]) ∧ ∀ w', w' < w → Img L X Y n o w'), ⟨_, ci ⟨0, _, _, _, rfl, ⟨rfl, rfl, rfl, rfl, rfl, trivial⟩, rfl, Nat.zero_le _, by omega, ⟨rfl, fun w' h => by omega⟩⟩⟩, ?_⟩
  clear h1 h2
  rintro _ s ⟨w, b, σ, T, rfl, hT, rfl, hw, hb, hh⟩
  obtain ⟨J, rfl⟩ := gt_open hT
  clear hT
  obtain ⟨s0, hI⟩ := hh.h
  clear hh
  refine ⟨fun hlt => ?_, fun hge => ?_⟩
  · have hwl : w < L.length := by omega
    have hi := hA.eq w hwl
    obtain ⟨x1, x2⟩ := ix_at hXl rX hwl
    obtain ⟨y1, y2⟩ := ix_at hYl rY hwl
    refine ⟨⟨⟨by omega, by show (w : Int) < (L.length : Nat); omega⟩, os_ix hwl⟩, ?_⟩
    refine ⟨_, os_at hi (by show _ * 2 = _; omega), ?_⟩
    refine ⟨by omega, ?_⟩
    refine ⟨_, _, push_get, ⟨rfl, Nat.le_of_ble_eq_true rfl, rfl⟩, _, rfl, _, push_set, ?_⟩
    have l0 := (List.getElem?_eq_some_iff.1 s0).1
    refine ⟨by kernel_rfl, ?_⟩
    refine ⟨_, load_k rfl rfl (contOf_frz (push_old s0)) (show [pOs L, pIs X, pIs Y][1]? = some (pIs X) from rfl) rfl, rfl, ?_⟩
    refine ⟨⟨⟨by omega, by omega⟩, len_map_le (by omega)⟩, ?_⟩
    refine ⟨_, ld (at_map x1) (by show _ * 1 = w; omega), rfl, ?_⟩
    refine ⟨_, load_k rfl rfl (contOf_frz (push_old s0)) (show [pOs L, pIs X, pIs Y][2]? = some (pIs Y) from rfl) rfl, rfl, ?_⟩
    refine ⟨⟨⟨by omega, by omega⟩, len_map_le (by omega)⟩, ?_⟩
    refine ⟨_, ld (at_map y1) (by show _ * 1 = w; omega), rfl, ?_⟩
    refine partc rfl ⟨_, rfl, ?_⟩
    refine ⟨by omega, ?_⟩
    refine ⟨_, _, push_get, ⟨rfl, Nat.le_of_ble_eq_true rfl, rfl⟩, _, rfl, _, push_set, ?_⟩
    refine callq rfl (forward_ct S hS) (by omega) ?_
    rintro _ rfl
    have hO := hA.ok w hwl
    have hcn := hA.con w hwl
    have hle := hA.le
    have hpo := hA.pos
    have cS : Conn n (o w).S.f (o w).S.g := by have := O4.conn_let hO hpo hcn 83; exact this
    have cT : Conn n (o w).T.f (o w).T.g := by have := O4.conn_let hO hpo hcn 84; exact this
    obtain ⟨i5, h5⟩ : ∃ i5, i5 = σ.length := ⟨_, rfl⟩
    refine ⟨fun q s => ∃ (k b' i6 : Nat) (σ' : List StB) (T : List PV), s = ⟨T, σ', b'⟩ ∧ Gt T 65 [(1, .optr 0 0), (5, .optr i5 0), (6, .optr i6 0), (21, pOs L), (22, pn L.length), (23, pn w), (39, .lst 2 [pb 83, .fn 177, pb 84, .fn 178]), (40, pn 2), (41, pn k)] ∧ q = 2 - k ∧ k ≤ 2 ∧ b' ≤ b + 100 + k * 2100000 ∧ Hid (σ'[0]? = some (.frz 56 [pOs L, pIs X, pIs Y]) ∧ contOf σ' i5 = some (45, [pIs (PL n (o w).f), pIs (PL n (o w).g)]) ∧ contOf σ' i6 = some (174, [pn (ixN X w), pn (ixN Y w)]) ∧ (1 ≤ k → L[ixN X w]? = some (labP n (o w).S)) ∧ (2 ≤ k → L[ixN Y w]? = some (labP n (o w).T))), ⟨_, ci ⟨0, _, _, _, _, rfl, ⟨rfl, rfl, by rw [h5]; rfl, rfl, rfl, rfl, rfl, rfl, rfl, rfl, trivial⟩, rfl, Nat.zero_le _, by omega, ⟨push_old (push_old s0), by rw [h5]; exact contOf_live (push_old push_get), contOf_live push_get, (fun h => by omega), (fun h => by omega)⟩⟩⟩, ?_⟩
    rintro _ s ⟨k, b', i6, σ', T, rfl, hT, rfl, hk, hb', hh⟩
    obtain ⟨J, rfl⟩ := gt_open hT
    clear hT
    obtain ⟨s0', c5, c6, q1, q2⟩ := hh.h
    clear hh
    refine ⟨fun hlt2 => ?_, fun hge2 => ?_⟩
    · obtain ⟨bb, gg, ob, z, z1, z2, z3, z4, z5, z6, z7⟩ : ∃ (bb gg : Nat) (ob : O4) (z : Nat), partP t164 (([pb 83, .fn 177, pb 84, .fn 178] : List PV).drop ((k : Int).toNat * 2)) 0 = some (.agg [pb bb, .fn gg]) ∧ Ct (ctx.plus S) gg [p4 n (o w)] 20000 (fun v => v = p4 n ob) ∧ ob.Ok n ∧ Conn n ob.f ob.g ∧ z < L.length ∧ [pn (ixN X w), pn (ixN Y w)][k]? = some (pn z) ∧ ((k = 0 ∧ ob = (o w).S ∧ z = ixN X w) ∨ (k = 1 ∧ ob = (o w).T ∧ z = ixN Y w)) := by
        rcases (show k = 0 ∨ k = 1 by omega) with rfl | rfl
        · exact ⟨83, 177, (o w).S, ixN X w, rfl, lS_ct S hS hle hO, hO.S, cS, x2, rfl, .inl ⟨rfl, rfl, rfl⟩⟩
        · exact ⟨84, 178, (o w).T, ixN Y w, rfl, lT_ct S hS hle hO, hO.T, cT, y2, rfl, .inr ⟨rfl, rfl, rfl⟩⟩
      have hIs : IsO (PL n ob.f) (PL n ob.g) n ob.f ob.f' ob.g ob.g' := ⟨hpo, hle, rfl, rfl, z3.pr, z3.pu⟩
      refine ⟨⟨⟨by omega, by omega⟩, by show (k : Int).toNat * 2 ≤ 4; omega⟩, ?_⟩
      refine ⟨_, z1, ?_⟩
      refine ⟨by omega, ?_⟩
      refine ⟨_, _, push_get, ⟨rfl, Nat.le_of_ble_eq_true rfl, rfl⟩, _, rfl, _, push_set, ?_⟩
      refine ⟨by kernel_rfl, ?_⟩
      refine ⟨_, load_k rfl rfl push_cont (show [pb bb, .fn gg][1]? = some (.fn gg) from rfl) rfl, rfl, ?_⟩
      refine ⟨_, load_agg S rfl (cont_old c5) rfl, rfl, ?_⟩
      refine callq rfl z2 (by omega) ?_
      rintro _ rfl
      refine callq rfl (labelOf_ct S hS hIs z4) (by omega) ?_
      rintro _ rfl
      refine ⟨_, load_k rfl rfl (contOf_frz (push_old s0')) (show [pOs L, pIs X, pIs Y][0]? = some (pOs L) from rfl) rfl, rfl, ?_⟩
      refine ⟨⟨by omega, by omega⟩, ?_⟩
      refine ⟨_, load_k rfl rfl (cont_old c6) z6 (by show 0 + (k : Int).toNat * 1 = k; omega), rfl, ?_⟩
      refine ⟨⟨⟨by omega, by show (z : Int) < (L.length : Nat); omega⟩, os_ix z5⟩, ?_⟩
      refine ⟨_, os_at (hA.eq z z5) (by show _ * 2 = _; omega), rfl, ?_⟩
      refine callq rfl (cmpO_ct S hS (by rw [Rs_len, PL_len]) (by rw [Us_len, PL_len]) (by rw [Rs_len]; omega) (by rw [Us_len]; omega)) (by omega) ?_
      rintro _ ⟨c, rfl, -, hc⟩
      have hiff : c = 0 ↔ L[z]? = some (labP n ob) := by
        rw [hc, hA.eq z z5]
        unfold labP
        constructor
        · rintro ⟨e1, e2⟩; rw [e1, e2]
        · intro e; have := Option.some.inj e; exact ⟨(congrArg Prod.fst this).symm, (congrArg Prod.snd this).symm⟩
      refine ⟨fun h => ?_, fun h => ?_⟩
      · refine endq rfl ⟨18, rfl, .inr (.inl ⟨⟨rX, rY⟩, fun hall => ?_, rfl⟩)⟩
        have hI' := hall w hwl
        rcases z7 with ⟨-, rfl, rfl⟩ | ⟨-, rfl, rfl⟩
        · exact h (hiff.2 hI'.1)
        · exact h (hiff.2 hI'.2)
      · have hz := hiff.1 h
        refine ⟨⟨by omega, by omega⟩, ?_⟩
        refine ⟨_, by omega, ci ⟨k + 1, _, i6, _, _, rfl, ⟨rfl, rfl, rfl, rfl, rfl, rfl, rfl, rfl, rfl, rfl, trivial⟩, rfl, by omega, by omega, ⟨push_old s0', cont_old c5, cont_old c6, fun h1 => ?_, fun h1 => ?_⟩⟩⟩
        · rcases z7 with ⟨rfl, rfl, rfl⟩ | ⟨rfl, rfl, rfl⟩
          · exact hz
          · exact q1 (by omega)
        · rcases z7 with ⟨rfl, rfl, rfl⟩ | ⟨rfl, rfl, rfl⟩
          · omega
          · exact hz
    · have hk2 : k = 2 := by omega
      subst hk2
      refine ⟨⟨by omega, by omega⟩, ?_⟩
      refine ⟨_, by omega, ci ⟨w + 1, _, _, _, rfl, ⟨rfl, rfl, rfl, rfl, rfl, trivial⟩, rfl, by omega, by omega, ⟨s0', fun w' hw' => ?_⟩⟩⟩
      rcases Nat.lt_or_ge w' w with h | h
      · exact hI w' h
      · rw [show w' = w by omega]
        exact ⟨q1 (by omega), q2 (by omega)⟩
  · have hwe : w = L.length := by omega
    subst hwe
    refine ⟨_, load_agg S rfl (contOf_frz s0) rfl, ?_⟩
    refine callq rfl (distances_ct S hS hM (x := ixN X) (y := ixN Y) (s := 0) (n := L.length) (by omega) hN0 rfl (fun w hw => ix_at hXl rX hw) (fun w hw => ix_at hYl rY hw) hXl hYl) (by omega) ?_
    rintro _ ⟨D, rfl, hD⟩
    have hDl := hD.len
    refine callq rfl (contInt_ct S hS (y := -1) (by omega)) (by omega) ?_
    rintro _ rfl
    have hmin := hD.minus
    by_cases hr : ∀ w, w < L.length → Rch (ixN X) (ixN Y) 0 w
    · rw [decide_eq_false (fun h => hmin.1 h hr)]
      exact endq rfl ⟨0, rfl, .inr (.inr (.inr ⟨⟨rX, rY⟩, hI, hr, rfl⟩))⟩
    · rw [decide_eq_true (hmin.2 hr)]
      exact endq rfl ⟨18, rfl, .inr (.inr (.inl ⟨⟨rX, rY⟩, hI, hr, rfl⟩))⟩
end Go.PI
/- CHECKORBIT, of the program. -/
open Go.Proofs
namespace Go.PI
open IM
set_option maxRecDepth 10000
set_option maxHeartbeats 4000000
variable (S : FuncId → Option (List AV → Heap → Option (AV × Heap)))
theorem fn41 : ctx.fn 41 = some c41 := by kernel_rfl
theorem okM_prev {L : OL} {i : Nat} (h : okM L i = 0) : (memO L i).1.length = (memO L 0).1.length ∧ (memO L i).2.length = (memO L 0).1.length := by
  obtain ⟨h0, h1, -, -, -⟩ := okO_zero h
  obtain ⟨w, hw⟩ : ∃ w, w = ow h0 := ⟨_, rfl⟩
  have e1 := congrArg List.length w.h.hr
  have e2 := congrArg List.length w.h.hu
  rw [PL_len] at e1 e2
  omega
theorem pCheckOrbit_ct (hS : OldO S) (hM : MulOk S) {L : OL} {X Y : List Int} (hs : Sml L X Y) {n : Nat} {o : Nat → O4} (hG : ¬ Bad0 L X Y → (∀ i, i < L.length → okM L i = 0) → AllOk L n o) :
    Ct (ctx.plus S) 41 [pB L X Y] 400000000 fun w => ∃ e : Int, w = pn e ∧ Ans L X Y n o e := by
  have hL := hs.l
  have hx := hs.x
  have hy := hs.y
  refine ct_of (hS 41 (by decide)) fn41 ?_
  refine ⟨by omega, ?_⟩
  refine ⟨_, rfl, ?_⟩
  refine ⟨fun h0 => ?_, fun h0 => ?_⟩
  · exact endq rfl ⟨10, rfl, .inl ⟨.inl (by have h : ((L.length : Nat) : Int) = 0 := h0; omega), rfl⟩⟩
  have h0 : L.length ≠ 0 := fun e => h0 (by show ((L.length : Nat) : Int) = 0; omega)
  refine ⟨_, rfl, ?_⟩
  refine ⟨fun h1 => ?_, fun h1 => ?_⟩
  · exact endq rfl ⟨10, rfl, .inl ⟨.inr (.inl fun e => h1 (by show ((X.length : Nat) : Int) = (L.length : Nat); omega)), rfl⟩⟩
  have h1 : X.length = L.length := by have h : ((X.length : Nat) : Int) = (L.length : Nat) := h1; omega
  refine ⟨_, rfl, ?_⟩
  refine ⟨fun h2 => ?_, fun h2 => ?_⟩
  · exact endq rfl ⟨10, rfl, .inl ⟨.inr (.inr fun e => h2 (by show ((Y.length : Nat) : Int) = (L.length : Nat); omega)), rfl⟩⟩
  have h2 : Y.length = L.length := by have h : ((Y.length : Nat) : Int) = (L.length : Nat) := h2; omega
  have hB : ¬ Bad0 L X Y := by unfold Bad0; omega
  refine ⟨fun h3 => by have h : ((L.length : Nat) : Int) > 2000 := h3; omega, fun _ => ?_⟩
  refine ⟨_, rfl, ?_⟩
  refine ⟨fun m s => ∃ (i b : Nat) (T : List PV), s = ⟨T, [.live 56 [pOs L, pIs X, pIs Y]], b⟩ ∧ Gt T 45 [(1, .optr 0 0), (31, pn L.length), (32, pn i)] ∧ m = L.length - i ∧ i ≤ L.length ∧ b ≤ 100 + i * 2010200 ∧ Hid (∀ j, j < i → okM L j = 0), ⟨_, ci ⟨0, _, _, rfl, ⟨rfl, rfl, rfl, rfl, trivial⟩, rfl, Nat.zero_le _, by omega, ⟨fun w' h => by omega⟩⟩⟩, ?_⟩
  rintro _ s ⟨i, b, T, rfl, hT, rfl, hi, hb, hh⟩
  obtain ⟨J, rfl⟩ := gt_open hT
  clear hT
  have hI := hh.h
  clear hh
  refine ⟨fun hlt => ?_, fun hge => ?_⟩
  · have hil : i < L.length := by omega
    have m1 := hs.m _ (List.mem_of_getElem? (memO_get hil))
    have m0 := hs.m _ (List.mem_of_getElem? (memO_get (L := L) (i := 0) (by omega)))
    refine ⟨_, rfl, ?_⟩
    refine callq rfl (checkLabel_ct S hS (i := i) (r := (memO L i).1) (u := (memO L i).2) (r0 := (memO L 0).1) (u0 := (memO L 0).2) (by omega) (memO_get hil) (memO_get (by omega)) (by omega) (by omega) (by omega) (q := if i = 0 then none else some (memO L (i - 1))) (by
      by_cases e : i = 0
      · rw [if_pos e]; exact .inl ⟨e, rfl⟩
      · rw [if_neg e]
        obtain ⟨p1, p2⟩ := okM_prev (hI (i - 1) (by omega))
        exact .inr ⟨_, rfl, by omega, memO_get (by omega), p1, p2⟩)) (by omega) ?_
    rintro _ rfl
    refine ⟨fun h => ?_, fun h => ?_⟩
    · exact endq rfl ⟨_, rfl, .inr (.inl ⟨hB, i, hil, h, hI, rfl⟩)⟩
    · refine ⟨⟨by omega, by omega⟩, ?_⟩
      refine ⟨_, by omega, ci ⟨i + 1, _, _, rfl, ⟨rfl, rfl, rfl, rfl, trivial⟩, rfl, by omega, by omega, ⟨fun j hj => ?_⟩⟩⟩
      rcases Nat.lt_or_ge j i with hji | hji
      · exact hI j hji
      · rw [show j = i by omega]; exact h
  · have hall : ∀ i, i < L.length → okM L i = 0 := fun j hj => hI j (by omega)
    refine ⟨_, rfl, ?_⟩
    refine callq rfl (checkImages_ct S hS hM (hG hB hall) (by omega) hL h1 h2) (by omega) ?_
    rintro _ ⟨e, rfl, he⟩
    exact endq rfl ⟨e, rfl, .inr (.inr ⟨hB, hall, he⟩)⟩
end Go.PI
