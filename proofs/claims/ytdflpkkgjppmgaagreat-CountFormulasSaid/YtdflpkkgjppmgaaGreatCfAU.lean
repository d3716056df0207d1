/- Own work of the verifier: PvIn0 PvUse PvGt PvGen. -/
import Derived.Test.YtdflpkkgjppmgaaGreatCfAT
import Derived.Test.YtdflpkkgjppmgaaGreatCfAP
set_option linter.all false
set_option exponentiation.threshold 3000
set_option linter.deprecated false
/- PLAIN VALUES: integers of any size, their arithmetic. -/
namespace Go.PI
open IM
set_option maxRecDepth 10000
set_option maxHeartbeats 1000000
def pIs (xs : List Int) : PV := .lst xs.length (xs.map pn)
def pI (X : Int) : PV := pIs (digits X)
theorem KpH.refl (H : Heap) (c : Nat) : KpH H H c := ⟨Nat.le_refl _, by omega, fun _ _ => rfl⟩
theorem at_map {α : Type} {f : α → PV} {L : List α} {i : Nat} {x : α} (h : L[i]? = some x) : (L.map f)[i]? = some (f x) := by simp [h]
theorem ld {cs : List PV} {j q : Nat} {v : PV} (h : cs[j]? = some v) (hq : q = j) : (cs.drop q)[0]? = some v := by
  subst hq
  rw [List.getElem?_drop, Nat.add_zero]
  exact h
end Go.PI
/- PLAIN VALUES: what makes walks short. -/
namespace Go.PI
def Fz (v : PV) (σ : List StB) (p : PV) (σ' : List StB) : Prop := ∀ K : PV → List StB → Prop, K p σ' → frzAK σ v K
theorem fzL {n : Nat} {cs : List PV} {σ : List StB} : Fz (.lst n cs) σ (.lst n cs) σ := fun _ h => h
theorem fzN {σ : List StB} : Fz .nils σ (.lst 0 []) σ := fun _ h => h
theorem fzI {k : IntKind} {n : Int} {σ : List StB} : Fz (.int k n) σ (.int k n) σ := fun _ h => h
variable {dr : Bool} {C : Ctx} {c k d : Nat} {σ σ1 σ2 σ3 : List StB} {g : FuncId} {K : PV → List StB → Nat → Prop} {Q : PV → Prop}
theorem callc {ps : List PV} (h : Ct C g ps d Q) (hk : k + d ≤ c) (hK : ∀ r, Q r → K r σ (k + d)) : pcallK C c k σ g ps K := ⟨⟨d, hk, .inl ⟨Q, h, hK⟩⟩⟩
def clo : PV → Bool
  | .lst _ _ | .int _ _ | .bool _ | .str _ | .nilp | .nilf | .nilm | .nili | .fn _ | .lptr _ => true
  | _ => false
def clos : List PV → Bool
  | [] => true
  | p :: ps => clo p && clos ps
theorem frzK_clo {p : PV} (h : clo p = true) {K : PV → List StB → Prop} (hK : K p σ) : frzK σ p K := by
  cases p <;> first | exact hK | cases h
theorem frzsK_clo : ∀ {ps : List PV} {K : List PV → List StB → Prop}, clos ps = true → K ps σ → frzsK σ ps K
  | [], K, _, h => h
  | p :: ps, K, hc, h => by
    simp only [clos, Bool.and_eq_true] at hc
    exact frzK_clo hc.1 (frzsK_clo hc.2 h)
def cloA : PV → Bool
  | .agg cs => clos cs
  | .fnc _ cs => clos cs
  | p => clo p
theorem frzAK_clo {p : PV} (h : cloA p = true) {K : PV → List StB → Prop} (hK : K p σ) : frzAK σ p K := by
  cases p <;> simp only [cloA, clo] at h <;> first | cases h; done | exact hK | skip
  all_goals exact frzsK_clo h hK
def cloAs : List PV → Bool
  | [] => true
  | p :: ps => cloA p && cloAs ps
theorem frzAsK_clo : ∀ {ps : List PV} {K : List PV → List StB → Prop}, cloAs ps = true → K ps σ → frzAsK σ ps K
  | [], K, _, h => h
  | p :: ps, K, hc, h => by
    simp only [cloAs, Bool.and_eq_true] at hc
    exact frzAK_clo hc.1 (frzAsK_clo hc.2 h)
theorem callq {ps : List PV} (hc : cloAs ps = true) (h : Ct C g ps d Q) (hk : k + d ≤ c) (hK : ∀ r, Q r → K r σ (k + d)) : ArgK dr C c k σ g ps K := ⟨.inl (frzAsK_clo hc (callc h hk hK))⟩
theorem cal1 {v p : PV} (h1 : Fz v σ p σ1) (h : Ct C g [p] d Q) (hk : k + d ≤ c) (hK : ∀ r, Q r → K r σ1 (k + d)) : ArgK dr C c k σ g [v] K := ⟨.inl (h1 _ (callc h hk hK))⟩
theorem cal2 {v w p q : PV} (h1 : Fz v σ p σ1) (h2 : Fz w σ1 q σ2) (h : Ct C g [p, q] d Q) (hk : k + d ≤ c) (hK : ∀ r, Q r → K r σ2 (k + d)) : ArgK dr C c k σ g [v, w] K :=
  ⟨.inl (h1 _ (h2 _ (callc h hk hK)))⟩
theorem cal3 {v w u p q r : PV} (h1 : Fz v σ p σ1) (h2 : Fz w σ1 q σ2) (h3 : Fz u σ2 r σ3) (h : Ct C g [p, q, r] d Q) (hk : k + d ≤ c) (hK : ∀ r, Q r → K r σ3 (k + d)) : ArgK dr C c k σ g [v, w, u] K :=
  ⟨.inl (h1 _ (h2 _ (h3 _ (callc h hk hK))))⟩
theorem endq {p : PV} {Q : PV → Prop} (h : cloA p = true) (hq : Q p) : EndK σ p Q := ⟨⟨[], show frzAK σ p fun r _ => Q r from frzAK_clo h hq⟩⟩
theorem endsq {ps : List PV} {Q : PV → Prop} (h : cloAs ps = true) (hq : Q (.tup ps)) : EndsK σ ps Q := ⟨⟨[], show frzAsK σ ps fun rs _ => Q (.tup rs) from frzAsK_clo h hq⟩⟩
theorem contOf_live {σ : List StB} {j : Nat} {t : TypeId} {cs : List PV} (h : σ[j]? = some (.live t cs)) : contOf σ j = some (t, cs) := by unfold contOf; rw [h]; rfl
def Gr {α : Type} (f : α → PV) (e : TypeId) (v : PV) (σ : List StB) (Xs : List α) : Prop :=
  (v = .nils ∧ Xs = []) ∨ (∃ j ty, v = .own j 0 Xs.length Xs.length 1 ∧ contOf σ j = some (ty, Xs.map f)) ∨ (∃ j, v = .ownu j Xs.length 1 ∧ σ[j]? = some (.live e (Xs.map f)))
theorem Gr.nil {α : Type} {f : α → PV} {e : TypeId} {σ : List StB} : Gr f e .nils σ [] := .inl ⟨rfl, rfl⟩
theorem Gr.fz {α : Type} {f : α → PV} {e : TypeId} {v : PV} {σ : List StB} {Xs : List α} (h : Gr f e v σ Xs) : ∃ σ', Fz v σ (.lst Xs.length (Xs.map f)) σ' := by
  rcases h with ⟨rfl, rfl⟩ | ⟨j, ty, rfl, h⟩ | ⟨j, rfl, h⟩
  · exact ⟨σ, fzN⟩
  · exact ⟨_, fun K hK => ⟨ty, _, _, h, ⟨by simp, by omega⟩, by rw [List.drop_zero, List.take_of_length_le (by simp)], hK⟩⟩
  · exact ⟨_, fun K hK => ⟨e, _, _, contOf_live h, ⟨by simp, fun _ => rfl⟩, by rw [List.take_of_length_le (by simp)], hK⟩⟩
theorem contOf_lt {σ : List StB} {j : Nat} {x : TypeId × List PV} (h : contOf σ j = some x) : j < σ.length := by
  unfold contOf at h
  cases hj : σ[j]? with
  | none => rw [hj] at h; cases h
  | some y => exact (List.getElem?_eq_some_iff.1 hj).1
theorem contOf_app {σ : List StB} {b : StB} {j : Nat} {x : TypeId × List PV} (h : contOf σ j = some x) : contOf (σ ++ [b]) j = some x := by
  have hj := contOf_lt h
  unfold contOf at h ⊢
  rw [List.getElem?_append_left hj]
  exact h
theorem Gr.push {α : Type} {f : α → PV} {e : TypeId} {v : PV} {σ : List StB} {Xs : List α} {b : StB} (h : Gr f e v σ Xs) : Gr f e v (σ ++ [b]) Xs := by
  rcases h with ⟨rfl, rfl⟩ | ⟨j, ty, rfl, h⟩ | ⟨j, rfl, h⟩
  · exact .inl ⟨rfl, rfl⟩
  · exact .inr (.inl ⟨j, ty, rfl, contOf_app h⟩)
  · exact .inr (.inr ⟨j, rfl, by rw [List.getElem?_append_left (List.getElem?_eq_some_iff.1 h).1]; exact h⟩)
def blkOf : PV → Option Nat
  | .own j _ _ _ _ => some j
  | .ownu j _ _ => some j
  | _ => none
theorem Gr.keep {α : Type} {f : α → PV} {e : TypeId} {v : PV} {σ σ' : List StB} {Xs : List α} (h : Gr f e v σ Xs) (k : ∀ j b, blkOf v = some j → σ[j]? = some b → σ'[j]? = some b) : Gr f e v σ' Xs := by
  rcases h with ⟨rfl, rfl⟩ | ⟨j, ty, rfl, h⟩ | ⟨j, rfl, h⟩
  · exact .inl ⟨rfl, rfl⟩
  · refine .inr (.inl ⟨j, ty, rfl, ?_⟩)
    unfold contOf at h ⊢
    cases hj : σ[j]? with
    | none => rw [hj] at h; cases h
    | some y => rw [hj] at h; rw [k j y rfl hj]; exact h
  · exact .inr (.inr ⟨j, rfl, k j _ rfl h⟩)
theorem Gr.blk {α : Type} {f : α → PV} {e : TypeId} {v : PV} {σ : List StB} {Xs : List α} (h : Gr f e v σ Xs) {j : Nat} (hj : blkOf v = some j) : j < σ.length := by
  rcases h with ⟨rfl, rfl⟩ | ⟨j', ty, rfl, h⟩ | ⟨j', rfl, h⟩
  · cases hj
  · cases hj; exact contOf_lt h
  · cases hj; exact (List.getElem?_eq_some_iff.1 h).1
def Cn {α : Type} (f : α → PV) (v : PV) (σ : List StB) (Xs : List α) : Prop :=
  (v = .nils ∧ Xs = []) ∨ ∃ j ty, contOf σ j = some (ty, Xs.map f) ∧ (v = .own j 0 Xs.length Xs.length 1 ∨ v = .ownu j Xs.length 1)
theorem Gr.cn {α : Type} {f : α → PV} {e : TypeId} {v : PV} {σ : List StB} {Xs : List α} (h : Gr f e v σ Xs) : Cn f v σ Xs := by
  rcases h with h | ⟨j, ty, rfl, h⟩ | ⟨j, rfl, h⟩
  · exact .inl h
  · exact .inr ⟨j, ty, h, .inl rfl⟩
  · exact .inr ⟨j, e, contOf_live h, .inr rfl⟩
theorem Cn.same {α : Type} {f : α → PV} {v : PV} {σ σ' : List StB} {Xs : List α} (h : Cn f v σ Xs) (k : ∀ j, contOf σ' j = contOf σ j) : Cn f v σ' Xs := by
  rcases h with h | ⟨j, ty, h, h2⟩
  · exact .inl h
  · exact .inr ⟨j, ty, by rw [k]; exact h, h2⟩
theorem Cn.push {α : Type} {f : α → PV} {v : PV} {σ : List StB} {Xs : List α} {b : StB} (h : Cn f v σ Xs) : Cn f v (σ ++ [b]) Xs := by
  rcases h with h | ⟨j, ty, h, h2⟩
  · exact .inl h
  · exact .inr ⟨j, ty, contOf_app h, h2⟩
theorem Cn.fz {α : Type} {f : α → PV} {v : PV} {σ : List StB} {Xs : List α} (h : Cn f v σ Xs) : ∃ σ', Fz v σ (.lst Xs.length (Xs.map f)) σ' ∧ (∀ j, contOf σ' j = contOf σ j) ∧ σ'.length = σ.length ∧ ∀ j b, blkOf v ≠ some j → σ[j]? = some b → σ'[j]? = some b := by
  rcases h with ⟨rfl, rfl⟩ | ⟨j, ty, h, rfl | rfl⟩
  · exact ⟨σ, fzN, fun _ => rfl, rfl, fun _ _ _ h => h⟩
  · refine ⟨_, fun K hK => ⟨ty, _, _, h, ⟨by simp, by omega⟩, by rw [List.drop_zero, List.take_of_length_le (by simp)], hK⟩, contOf_set h, by simp, fun j' b hj hb => ?_⟩
    rw [List.getElem?_set_ne (fun e => hj (by rw [← e]; rfl))]; exact hb
  · refine ⟨_, fun K hK => ⟨ty, _, _, h, ⟨by simp, fun _ => rfl⟩, by rw [List.take_of_length_le (by simp)], hK⟩, contOf_set h, by simp, fun j' b hj hb => ?_⟩
    rw [List.getElem?_set_ne (fun e => hj (by rw [← e]; rfl))]; exact hb
theorem part1 {v p : PV} {i : Nat} {K : List (Nat × PV) → List StB → Prop} (h1 : Fz v σ p σ1) (hK : K [(i, p)] σ1) : PartK σ [(i, v)] K := ⟨h1 _ hK⟩
theorem part2 {v w p q : PV} {i j : Nat} {K : List (Nat × PV) → List StB → Prop} (h1 : Fz v σ p σ1) (h2 : Fz w σ1 q σ2) (hK : K [(i, p), (j, q)] σ2) : PartK σ [(i, v), (j, w)] K := ⟨h1 _ (h2 _ hK)⟩
section
variable {α : Type}
variable {f : α → PV} {z : PV} {n q : Nat} {L : List α} {x y : α}
end
theorem len_map_le {α : Type} {f : α → PV} {L : List α} {q : Nat} (h : q ≤ L.length) : q * 1 ≤ (L.map f).length := by rw [List.length_map]; omega
theorem fz_own {i n c e : Nat} {σ : List StB} {ty : TypeId} {cs cs' : List PV} (h : contOf σ i = some (ty, cs)) (hl : n * e ≤ cs.length) (hc : n ≤ c) (ht : cs.take (n * e) = cs') : Fz (.own i 0 n c e) σ (.lst n cs') (σ.set i (.frz ty cs)) :=
  fun K hK => ⟨ty, cs, cs', h, by omega, by simpa using ht, hK⟩
theorem part0 {σ : List StB} {K : List (Nat × PV) → List StB → Prop} (hK : K [] σ) : PartK σ [] K := ⟨hK⟩
theorem pones_pn : ∀ xs : List Int, pones (xs.map (.int .i64)) = true
  | [] => rfl
  | x :: xs => by simp only [List.map_cons, pones, pones_pn xs, Bool.and_true]; rfl
end Go.PI
/- PLAIN VALUES: temporaries of which only some are told; calls that are given the store. -/
namespace Go.PI
structure Hid (p : Prop) : Prop where
  h : p
def exL (f : Nat → PV) : Nat → Nat → List PV
  | 0, _ => []
  | n + 1, i => f i :: exL f n (i + 1)
def asg : List (Nat × PV) → (Nat → PV) → Nat → PV
  | [], J, i => J i
  | (k, v) :: l, J, i => match Nat.beq k i with
    | true => v
    | false => asg l J i
def AllG (T : List PV) : List (Nat × PV) → Prop
  | [] => True
  | (k, v) :: l => T.getD k undefP = v ∧ AllG T l
def Gt (T : List PV) (n : Nat) (l : List (Nat × PV)) : Prop := T.length = n ∧ AllG T l
theorem exL_get (f : Nat → PV) : ∀ (n i j : Nat), j < n → (exL f n i)[j]? = some (f (i + j))
  | 0, _, _, h => by omega
  | n + 1, i, 0, _ => rfl
  | n + 1, i, j + 1, h => by
    show (exL f n (i + 1))[j]? = _
    rw [exL_get f n (i + 1) j (by omega)]
    congr 2
    omega
theorem exL_len (f : Nat → PV) : ∀ (n i : Nat), (exL f n i).length = n
  | 0, _ => rfl
  | n + 1, i => by show (exL f n (i + 1)).length + 1 = _; rw [exL_len f n]
theorem asg_is {T : List PV} : ∀ {l : List (Nat × PV)}, AllG T l → ∀ i, asg l (fun i => T.getD i undefP) i = T.getD i undefP
  | [], _, i => rfl
  | (k, v) :: l, h, i => by
    show (match Nat.beq k i with | true => v | false => asg l _ i) = _
    split
    · rename_i hk
      have := Nat.eq_of_beq_eq_true hk
      subst this
      exact h.1.symm
    · exact asg_is h.2 i
theorem gt_open {T : List PV} {n : Nat} {l : List (Nat × PV)} (h : Gt T n l) : ∃ J, T = exL (asg l J) n 0 := by
  refine ⟨fun i => T.getD i undefP, List.ext_getElem? fun i => ?_⟩
  by_cases hi : i < n
  · rw [exL_get _ _ _ _ hi, asg_is h.2, Nat.zero_add]
    have : i < T.length := by rw [h.1]; exact hi
    simp [List.getD, this]
  · rw [List.getElem?_eq_none (by rw [h.1]; omega), List.getElem?_eq_none (by rw [exL_len]; omega)]
variable {C : Ctx} {c k d : Nat} {σ σ1 : List StB} {g : FuncId} {K : PV → List StB → Nat → Prop}
theorem callm {ps : List PV} {Q : PV → List StB → Prop} (h : Cm C g ps σ d Q) (hk : k + d ≤ c) (hK : ∀ r σ', Q r σ' → K r σ' (k + d)) : ArgK false C c k σ g ps K :=
  ⟨.inr (.inr ⟨rfl, [], .inr ⟨[], by cases ps <;> exact ⟨d, Q, hk, h, hK⟩⟩⟩)⟩
theorem endm (ms : List Bool) {m : Nat} {vs : List PV} {Q : PV → List StB → Prop} (hk : k ≤ m) (h : frzmK σ ms vs fun vs' σ2 => Q (oneP vs') σ2) : EndMK σ k m vs Q := ⟨⟨[], hk, ms, h⟩⟩
section
variable {σ2 σ3 σ4 : List StB}
end
section
theorem load_k {C : Ctx} {σ : List StB} {j o q : Nat} {t t' : TypeId} {i : TI} {cs : List PV} {v : PV} (hi : C.ty t = some i) (hd : (match i.desc with | .struct _ | .array _ _ => false | _ => true) = true) (hc : contOf σ j = some (t', cs)) (hv : cs[q]? = some v) (ho : o = q) : ploadE C σ t (.optr j o) = some v := by
  subst ho
  unfold ploadE
  rw [hi]
  simp only [hc]
  unfold partP
  split
  · rename_i h; rw [h] at hd; cases hd
  · rename_i h; rw [h] at hd; cases hd
  · exact hv
end
end Go.PI
/- PLAIN VALUES: small facts of stores and lists. -/
namespace Go.PI
open IM
set_option maxRecDepth 10000
set_option maxHeartbeats 1000000
theorem push_get {σ0 : List StB} {b : StB} : (σ0 ++ [b])[σ0.length]? = some b := by simp
theorem push_at {σ0 : List StB} {b : StB} {n : Nat} (h : n = σ0.length) : (σ0 ++ [b])[n]? = some b := by subst h; simp
theorem push_set {σ0 : List StB} {b b' : StB} : (σ0 ++ [b]).set σ0.length b' = σ0 ++ [b'] := by simp
theorem push_cont {σ0 : List StB} {t : TypeId} {cs : List PV} : contOf (σ0 ++ [.live t cs]) σ0.length = some (t, cs) := by unfold contOf; rw [push_get]; rfl
theorem rep_flat (n : Nat) : (List.replicate n [pn 0]).flatten = (List.replicate n (0 : Int)).map pn := by
  rw [List.flatten_replicate_singleton, List.map_replicate]
theorem keep0 {τ : List StB} {b b' x : StB} (h : τ[0]? = some x) : ((τ ++ [b]).set τ.length b')[0]? = some x := by
  have hl := (List.getElem?_eq_some_iff.1 h).1
  rw [List.getElem?_set_ne (by omega), List.getElem?_append_left hl]
  exact h
theorem put_mid (P Q : List Int) (x y : Int) : pspl ((P ++ [x] ++ Q).map pn) P.length [pn y] = (P ++ y :: Q).map pn := by
  unfold pspl
  simp only [List.map_append, List.append_assoc]
  rw [List.take_left' (by simp), List.drop_append]
  simp
theorem Cm.ct {C : Ctx} {g : FuncId} {ps : List PV} {d : Nat} {Q : PV → List StB → Prop} {Q' : PV → Prop} (h : Cm C g ps [] d Q) (hq : ∀ r σ', Q r σ' → frzAK σ' r fun p _ => Q' p) : Ct C g ps d Q' := by
  intro H W avs hw hr hn
  have I : Sto H W d [] 0 W [] H := ⟨hn, Nat.zero_le _, Nat.le_refl _, Nat.le_refl _, fun _ _ => rfl, hw, fun _ h => h, fun _ h => .inl h, rfl, fun i b h => by simp at h, fun i t l b h => by simp at h, fun i t l b h => by simp at h, fun i j b h => by simp at h, fun i t l b h => by simp at h, fun i t l b h => by simp at h, fun i l b h => by simp at h⟩
  refine (h H W d 0 W [] H avs I (by omega) (RelVs.clo hr)).mono ?_
  rintro v H' ⟨r, σ', k', W', β', E, I', hv, hQ, hk⟩
  obtain ⟨p, σ2, W2, f, r2, hp⟩ := frzAK_ok (hq r σ' hQ) I' hv
  exact ⟨p, hp, r2.mono (fun _ _ _ => rfl) (fun A _ h => f.2.1.w0 A h), I'.lo, by have := I'.hi; omega, I'.keep⟩
def Wrt (σ σ' : List StB) (r : PV) (xs : List Int) : Prop :=
  ∃ j, (r = .own j 0 xs.length xs.length 1 ∨ r = .ownu j xs.length 1) ∧ σ'[j]? = some (.live 3 (xs.map pn)) ∧ σ.length ≤ j ∧ ∀ (i : Nat) (b : StB), σ[i]? = some b → σ'[i]? = some b
theorem Wrt.fz {σ σ' : List StB} {r : PV} {xs : List Int} (h : Wrt σ σ' r xs) : frzAK σ' r fun p _ => p = pIs xs := by
  obtain ⟨j, rfl | rfl, h1, -, -⟩ := h
  · exact ⟨3, _, _, contOf_live h1, ⟨by simp, Nat.le_refl _⟩, rfl, by show PV.lst _ _ = _; rw [List.drop_zero, List.take_of_length_le (by simp)]; rfl⟩
  · exact ⟨3, _, _, contOf_live h1, ⟨by simp, fun _ => rfl⟩, rfl, by show PV.lst _ _ = _; rw [List.take_of_length_le (by simp)]; rfl⟩
end Go.PI
