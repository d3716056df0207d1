/- Own work of the verifier: PvUse PvGt PvGen IntMath2 IntMath3. -/
import Derived.Test.YtdflpkkgjppmgaaGreatChAT
import Derived.Test.YtdflpkkgjppmgaaGreatChAP
set_option linter.all false
set_option exponentiation.threshold 3000
set_option linter.deprecated false
/- PLAIN VALUES: what makes walks short. -/
namespace Go.PI
def Fz (v : PV) (σ : List StB) (p : PV) (σ' : List StB) : Prop := ∀ K : PV → List StB → Prop, K p σ' → frzAK σ v K
theorem fzL {n : Nat} {cs : List PV} {σ : List StB} : Fz (.lst n cs) σ (.lst n cs) σ := fun _ h => h
theorem fzN {σ : List StB} : Fz .nils σ (.lst 0 []) σ := fun _ h => h
theorem fzI {k : IntKind} {n : Int} {σ : List StB} : Fz (.int k n) σ (.int k n) σ := fun _ h => h
variable {dr : Bool} {C : Ctx} {c k d : Nat} {σ σ1 σ2 σ3 : List StB} {g : FuncId} {K : PV → List StB → Nat → Prop} {Q : PV → Prop}
theorem callc {ps : List PV} (h : Ct C g ps d Q) (hk : k + d ≤ c) (hK : ∀ r, Q r → K r σ (k + d)) : pcallK C c k σ g ps K := ⟨⟨d, hk, .inl ⟨Q, h, hK⟩⟩⟩
def clo : PV → Bool
  | .lst _ _ | .int _ _ | .bool _ | .str _ | .nilp | .nilf | .nilm | .nili | .fn _ | .lptr _ => true
  | _ => false
def clos : List PV → Bool
  | [] => true
  | p :: ps => clo p && clos ps
theorem frzK_clo {p : PV} (h : clo p = true) {K : PV → List StB → Prop} (hK : K p σ) : frzK σ p K := by
  cases p <;> first | exact hK | cases h
theorem frzsK_clo : ∀ {ps : List PV} {K : List PV → List StB → Prop}, clos ps = true → K ps σ → frzsK σ ps K
  | [], K, _, h => h
  | p :: ps, K, hc, h => by
    simp only [clos, Bool.and_eq_true] at hc
    exact frzK_clo hc.1 (frzsK_clo hc.2 h)
def cloA : PV → Bool
  | .agg cs => clos cs
  | .fnc _ cs => clos cs
  | p => clo p
theorem frzAK_clo {p : PV} (h : cloA p = true) {K : PV → List StB → Prop} (hK : K p σ) : frzAK σ p K := by
  cases p <;> simp only [cloA, clo] at h <;> first | cases h; done | exact hK | skip
  all_goals exact frzsK_clo h hK
def cloAs : List PV → Bool
  | [] => true
  | p :: ps => cloA p && cloAs ps
theorem frzAsK_clo : ∀ {ps : List PV} {K : List PV → List StB → Prop}, cloAs ps = true → K ps σ → frzAsK σ ps K
  | [], K, _, h => h
  | p :: ps, K, hc, h => by
    simp only [cloAs, Bool.and_eq_true] at hc
    exact frzAK_clo hc.1 (frzAsK_clo hc.2 h)
theorem callq {ps : List PV} (hc : cloAs ps = true) (h : Ct C g ps d Q) (hk : k + d ≤ c) (hK : ∀ r, Q r → K r σ (k + d)) : ArgK dr C c k σ g ps K := ⟨.inl (frzAsK_clo hc (callc h hk hK))⟩
theorem cal1 {v p : PV} (h1 : Fz v σ p σ1) (h : Ct C g [p] d Q) (hk : k + d ≤ c) (hK : ∀ r, Q r → K r σ1 (k + d)) : ArgK dr C c k σ g [v] K := ⟨.inl (h1 _ (callc h hk hK))⟩
theorem cal2 {v w p q : PV} (h1 : Fz v σ p σ1) (h2 : Fz w σ1 q σ2) (h : Ct C g [p, q] d Q) (hk : k + d ≤ c) (hK : ∀ r, Q r → K r σ2 (k + d)) : ArgK dr C c k σ g [v, w] K :=
  ⟨.inl (h1 _ (h2 _ (callc h hk hK)))⟩
theorem cal3 {v w u p q r : PV} (h1 : Fz v σ p σ1) (h2 : Fz w σ1 q σ2) (h3 : Fz u σ2 r σ3) (h : Ct C g [p, q, r] d Q) (hk : k + d ≤ c) (hK : ∀ r, Q r → K r σ3 (k + d)) : ArgK dr C c k σ g [v, w, u] K :=
  ⟨.inl (h1 _ (h2 _ (h3 _ (callc h hk hK))))⟩
theorem endq {p : PV} {Q : PV → Prop} (h : cloA p = true) (hq : Q p) : EndK σ p Q := ⟨⟨[], show frzAK σ p fun r _ => Q r from frzAK_clo h hq⟩⟩
theorem endf {v p : PV} {Q : PV → Prop} (h : Fz v σ p σ1) (hq : Q p) : EndK σ v Q := ⟨⟨[], show frzAK σ v fun r _ => Q r from h _ hq⟩⟩
theorem endsq {ps : List PV} {Q : PV → Prop} (h : cloAs ps = true) (hq : Q (.tup ps)) : EndsK σ ps Q := ⟨⟨[], show frzAsK σ ps fun rs _ => Q (.tup rs) from frzAsK_clo h hq⟩⟩
theorem contOf_live {σ : List StB} {j : Nat} {t : TypeId} {cs : List PV} (h : σ[j]? = some (.live t cs)) : contOf σ j = some (t, cs) := by unfold contOf; rw [h]; rfl
def Gr {α : Type} (f : α → PV) (e : TypeId) (v : PV) (σ : List StB) (Xs : List α) : Prop :=
  (v = .nils ∧ Xs = []) ∨ (∃ j ty, v = .own j 0 Xs.length Xs.length 1 ∧ contOf σ j = some (ty, Xs.map f)) ∨ (∃ j, v = .ownu j Xs.length 1 ∧ σ[j]? = some (.live e (Xs.map f)))
theorem Gr.nil {α : Type} {f : α → PV} {e : TypeId} {σ : List StB} : Gr f e .nils σ [] := .inl ⟨rfl, rfl⟩
theorem Gr.fz {α : Type} {f : α → PV} {e : TypeId} {v : PV} {σ : List StB} {Xs : List α} (h : Gr f e v σ Xs) : ∃ σ', Fz v σ (.lst Xs.length (Xs.map f)) σ' := by
  rcases h with ⟨rfl, rfl⟩ | ⟨j, ty, rfl, h⟩ | ⟨j, rfl, h⟩
  · exact ⟨σ, fzN⟩
  · exact ⟨_, fun K hK => ⟨ty, _, _, h, ⟨by simp, by omega⟩, by rw [List.drop_zero, List.take_of_length_le (by simp)], hK⟩⟩
  · exact ⟨_, fun K hK => ⟨e, _, _, contOf_live h, ⟨by simp, fun _ => rfl⟩, by rw [List.take_of_length_le (by simp)], hK⟩⟩
theorem contOf_lt {σ : List StB} {j : Nat} {x : TypeId × List PV} (h : contOf σ j = some x) : j < σ.length := by
  unfold contOf at h
  cases hj : σ[j]? with
  | none => rw [hj] at h; cases h
  | some y => exact (List.getElem?_eq_some_iff.1 hj).1
theorem contOf_app {σ : List StB} {b : StB} {j : Nat} {x : TypeId × List PV} (h : contOf σ j = some x) : contOf (σ ++ [b]) j = some x := by
  have hj := contOf_lt h
  unfold contOf at h ⊢
  rw [List.getElem?_append_left hj]
  exact h
theorem Gr.push {α : Type} {f : α → PV} {e : TypeId} {v : PV} {σ : List StB} {Xs : List α} {b : StB} (h : Gr f e v σ Xs) : Gr f e v (σ ++ [b]) Xs := by
  rcases h with ⟨rfl, rfl⟩ | ⟨j, ty, rfl, h⟩ | ⟨j, rfl, h⟩
  · exact .inl ⟨rfl, rfl⟩
  · exact .inr (.inl ⟨j, ty, rfl, contOf_app h⟩)
  · exact .inr (.inr ⟨j, rfl, by rw [List.getElem?_append_left (List.getElem?_eq_some_iff.1 h).1]; exact h⟩)
def blkOf : PV → Option Nat
  | .own j _ _ _ _ => some j
  | .ownu j _ _ => some j
  | _ => none
theorem Gr.keep {α : Type} {f : α → PV} {e : TypeId} {v : PV} {σ σ' : List StB} {Xs : List α} (h : Gr f e v σ Xs) (k : ∀ j b, blkOf v = some j → σ[j]? = some b → σ'[j]? = some b) : Gr f e v σ' Xs := by
  rcases h with ⟨rfl, rfl⟩ | ⟨j, ty, rfl, h⟩ | ⟨j, rfl, h⟩
  · exact .inl ⟨rfl, rfl⟩
  · refine .inr (.inl ⟨j, ty, rfl, ?_⟩)
    unfold contOf at h ⊢
    cases hj : σ[j]? with
    | none => rw [hj] at h; cases h
    | some y => rw [hj] at h; rw [k j y rfl hj]; exact h
  · exact .inr (.inr ⟨j, rfl, k j _ rfl h⟩)
theorem Gr.blk {α : Type} {f : α → PV} {e : TypeId} {v : PV} {σ : List StB} {Xs : List α} (h : Gr f e v σ Xs) {j : Nat} (hj : blkOf v = some j) : j < σ.length := by
  rcases h with ⟨rfl, rfl⟩ | ⟨j', ty, rfl, h⟩ | ⟨j', rfl, h⟩
  · cases hj
  · cases hj; exact contOf_lt h
  · cases hj; exact (List.getElem?_eq_some_iff.1 h).1
def Cn {α : Type} (f : α → PV) (v : PV) (σ : List StB) (Xs : List α) : Prop :=
  (v = .nils ∧ Xs = []) ∨ ∃ j ty, contOf σ j = some (ty, Xs.map f) ∧ (v = .own j 0 Xs.length Xs.length 1 ∨ v = .ownu j Xs.length 1)
theorem Gr.cn {α : Type} {f : α → PV} {e : TypeId} {v : PV} {σ : List StB} {Xs : List α} (h : Gr f e v σ Xs) : Cn f v σ Xs := by
  rcases h with h | ⟨j, ty, rfl, h⟩ | ⟨j, rfl, h⟩
  · exact .inl h
  · exact .inr ⟨j, ty, h, .inl rfl⟩
  · exact .inr ⟨j, e, contOf_live h, .inr rfl⟩
theorem Cn.same {α : Type} {f : α → PV} {v : PV} {σ σ' : List StB} {Xs : List α} (h : Cn f v σ Xs) (k : ∀ j, contOf σ' j = contOf σ j) : Cn f v σ' Xs := by
  rcases h with h | ⟨j, ty, h, h2⟩
  · exact .inl h
  · exact .inr ⟨j, ty, by rw [k]; exact h, h2⟩
theorem Cn.push {α : Type} {f : α → PV} {v : PV} {σ : List StB} {Xs : List α} {b : StB} (h : Cn f v σ Xs) : Cn f v (σ ++ [b]) Xs := by
  rcases h with h | ⟨j, ty, h, h2⟩
  · exact .inl h
  · exact .inr ⟨j, ty, contOf_app h, h2⟩
theorem Cn.fz {α : Type} {f : α → PV} {v : PV} {σ : List StB} {Xs : List α} (h : Cn f v σ Xs) : ∃ σ', Fz v σ (.lst Xs.length (Xs.map f)) σ' ∧ (∀ j, contOf σ' j = contOf σ j) ∧ σ'.length = σ.length ∧ ∀ j b, blkOf v ≠ some j → σ[j]? = some b → σ'[j]? = some b := by
  rcases h with ⟨rfl, rfl⟩ | ⟨j, ty, h, rfl | rfl⟩
  · exact ⟨σ, fzN, fun _ => rfl, rfl, fun _ _ _ h => h⟩
  · refine ⟨_, fun K hK => ⟨ty, _, _, h, ⟨by simp, by omega⟩, by rw [List.drop_zero, List.take_of_length_le (by simp)], hK⟩, contOf_set h, by simp, fun j' b hj hb => ?_⟩
    rw [List.getElem?_set_ne (fun e => hj (by rw [← e]; rfl))]; exact hb
  · refine ⟨_, fun K hK => ⟨ty, _, _, h, ⟨by simp, fun _ => rfl⟩, by rw [List.take_of_length_le (by simp)], hK⟩, contOf_set h, by simp, fun j' b hj hb => ?_⟩
    rw [List.getElem?_set_ne (fun e => hj (by rw [← e]; rfl))]; exact hb
theorem part1 {v p : PV} {i : Nat} {K : List (Nat × PV) → List StB → Prop} (h1 : Fz v σ p σ1) (hK : K [(i, p)] σ1) : PartK σ [(i, v)] K := ⟨h1 _ hK⟩
theorem part2 {v w p q : PV} {i j : Nat} {K : List (Nat × PV) → List StB → Prop} (h1 : Fz v σ p σ1) (h2 : Fz w σ1 q σ2) (hK : K [(i, p), (j, q)] σ2) : PartK σ [(i, v), (j, w)] K := ⟨h1 _ (h2 _ hK)⟩
theorem appG {α : Type} {f : α → PV} {e t tx : TypeId} {rest : List TypeId} {v : PV} {Xs : List α} {y : α} {i m : Nat} {ty : TypeId} {σ : List StB} {ti xi ei : TI} (hg : Gr f e v σ Xs) (hx : contOf σ i = some (ty, [f y])) (ht : C.ty t = some ti) (htd : ti.desc = .slice e) (htx : C.ty tx = some xi) (he : C.ty e = some ei) (hd : decide (srcOk xi.desc = true ∧ ei.bytes ≤ 2 ^ 10) = true) (hs : ei.size = 1) (ho : (f y).one = true)
    (hl : Xs.length ≤ 1000000) (hk : k < c) (hK : ∀ v' σ', Gr f e v' σ' (Xs ++ [y]) → (∀ j b, blkOf v ≠ some j → σ[j]? = some b → σ'[j]? = some b) → blkOf v' = some σ.length → K v' σ' (k + 1)) : AppK C c k σ (t :: tx :: rest) v (.own i 0 1 1 m) K := by
  refine ⟨?_⟩
  obtain ⟨desc, sz, by', z⟩ := ti
  simp only at htd
  subst htd
  unfold pappK
  simp only [ht, htx, he, hd]
  have hxi := contOf_lt hx
  refine ⟨ty, [f y], [f y], hx, by rw [hs]; simp, by rw [hs]; rfl, ⟨by decide, by simp [pones, ho]⟩, ?_⟩
  have hnew : ∀ {σ' : List StB}, σ'.length = σ.length → Gr f e (.ownu σ.length (Xs.length + 1) 1) (σ' ++ [.live e (Xs.map f ++ [f y])]) (Xs ++ [y]) := fun {σ'} h =>
    .inr (.inr ⟨σ.length, by simp, by rw [← h]; simp⟩)
  have hold : ∀ {b : StB} {j : Nat} {x : StB}, σ[j]? = some x → (σ ++ [b])[j]? = some x := fun h => by rw [List.getElem?_append_left (List.getElem?_eq_some_iff.1 h).1]; exact h
  rcases hg with ⟨rfl, rfl⟩ | ⟨j, ty2, rfl, h⟩ | ⟨j, rfl, h⟩
  · refine ⟨(fun h => by cases h), fun _ => ⟨hk, ?_⟩⟩
    rw [hs]
    exact hK _ _ (hnew rfl) (fun j b _ hb => hold hb) rfl
  · refine ⟨by omega, (fun h => by omega), fun _ => ⟨hk, ty2, Xs.map f, Xs.map f ++ [f y], h, by rw [hs]; simp, by rw [hs, List.drop_zero, List.take_of_length_le (by simp)], ?_⟩⟩
    rw [hs]
    exact hK _ _ (hnew rfl) (fun j b _ hb => hold hb) rfl
  · refine ⟨⟨by omega, hs.symm, hk⟩, Xs.map f, Xs.map f ++ [f y], h, by rw [hs]; simp, by rw [hs, List.take_of_length_le (by simp)], ?_⟩
    refine hK _ _ (hnew (by simp)) (fun j' b hj hb => ?_) rfl
    have hne : j ≠ j' := fun e => hj (by rw [← e]; rfl)
    rw [List.getElem?_append_left (by rw [List.length_set]; exact (List.getElem?_eq_some_iff.1 hb).1), List.getElem?_set_ne hne]
    exact hb
section
variable {α : Type}
variable {f : α → PV} {z : PV} {n q : Nat} {L : List α} {x y : α}
end
theorem len_map_le {α : Type} {f : α → PV} {L : List α} {q : Nat} (h : q ≤ L.length) : q * 1 ≤ (L.map f).length := by rw [List.length_map]; omega
theorem fz_own {i n c e : Nat} {σ : List StB} {ty : TypeId} {cs cs' : List PV} (h : contOf σ i = some (ty, cs)) (hl : n * e ≤ cs.length) (hc : n ≤ c) (ht : cs.take (n * e) = cs') : Fz (.own i 0 n c e) σ (.lst n cs') (σ.set i (.frz ty cs)) :=
  fun K hK => ⟨ty, cs, cs', h, by omega, by simpa using ht, hK⟩
theorem part0 {σ : List StB} {K : List (Nat × PV) → List StB → Prop} (hK : K [] σ) : PartK σ [] K := ⟨hK⟩
theorem pones_pn : ∀ xs : List Int, pones (xs.map (.int .i64)) = true
  | [] => rfl
  | x :: xs => by simp only [List.map_cons, pones, pones_pn xs, Bool.and_true]; rfl
end Go.PI
/- PLAIN VALUES: temporaries of which only some are told; calls that are given the store. -/
namespace Go.PI
structure Hid (p : Prop) : Prop where
  h : p
def exL (f : Nat → PV) : Nat → Nat → List PV
  | 0, _ => []
  | n + 1, i => f i :: exL f n (i + 1)
def asg : List (Nat × PV) → (Nat → PV) → Nat → PV
  | [], J, i => J i
  | (k, v) :: l, J, i => match Nat.beq k i with
    | true => v
    | false => asg l J i
def AllG (T : List PV) : List (Nat × PV) → Prop
  | [] => True
  | (k, v) :: l => T.getD k undefP = v ∧ AllG T l
def Gt (T : List PV) (n : Nat) (l : List (Nat × PV)) : Prop := T.length = n ∧ AllG T l
theorem exL_get (f : Nat → PV) : ∀ (n i j : Nat), j < n → (exL f n i)[j]? = some (f (i + j))
  | 0, _, _, h => by omega
  | n + 1, i, 0, _ => rfl
  | n + 1, i, j + 1, h => by
    show (exL f n (i + 1))[j]? = _
    rw [exL_get f n (i + 1) j (by omega)]
    congr 2
    omega
theorem exL_len (f : Nat → PV) : ∀ (n i : Nat), (exL f n i).length = n
  | 0, _ => rfl
  | n + 1, i => by show (exL f n (i + 1)).length + 1 = _; rw [exL_len f n]
theorem asg_is {T : List PV} : ∀ {l : List (Nat × PV)}, AllG T l → ∀ i, asg l (fun i => T.getD i undefP) i = T.getD i undefP
  | [], _, i => rfl
  | (k, v) :: l, h, i => by
    show (match Nat.beq k i with | true => v | false => asg l _ i) = _
    split
    · rename_i hk
      have := Nat.eq_of_beq_eq_true hk
      subst this
      exact h.1.symm
    · exact asg_is h.2 i
theorem gt_open {T : List PV} {n : Nat} {l : List (Nat × PV)} (h : Gt T n l) : ∃ J, T = exL (asg l J) n 0 := by
  refine ⟨fun i => T.getD i undefP, List.ext_getElem? fun i => ?_⟩
  by_cases hi : i < n
  · rw [exL_get _ _ _ _ hi, asg_is h.2, Nat.zero_add]
    have : i < T.length := by rw [h.1]; exact hi
    simp [List.getD, this]
  · rw [List.getElem?_eq_none (by rw [h.1]; omega), List.getElem?_eq_none (by rw [exL_len]; omega)]
variable {C : Ctx} {c k d : Nat} {σ σ1 : List StB} {g : FuncId} {K : PV → List StB → Nat → Prop}
theorem callm {ps : List PV} {Q : PV → List StB → Prop} (h : Cm C g ps σ d Q) (hk : k + d ≤ c) (hK : ∀ r σ', Q r σ' → K r σ' (k + d)) : ArgK false C c k σ g ps K :=
  ⟨.inr (.inr ⟨rfl, [], .inr ⟨[], by cases ps <;> exact ⟨d, Q, hk, h, hK⟩⟩⟩)⟩
theorem endm (ms : List Bool) {m : Nat} {vs : List PV} {Q : PV → List StB → Prop} (hk : k ≤ m) (h : frzmK σ ms vs fun vs' σ2 => Q (oneP vs') σ2) : EndMK σ k m vs Q := ⟨⟨[], hk, ms, h⟩⟩
section
variable {σ2 σ3 σ4 : List StB}
end
section
theorem load_k {C : Ctx} {σ : List StB} {j o q : Nat} {t t' : TypeId} {i : TI} {cs : List PV} {v : PV} (hi : C.ty t = some i) (hd : (match i.desc with | .struct _ | .array _ _ => false | _ => true) = true) (hc : contOf σ j = some (t', cs)) (hv : cs[q]? = some v) (ho : o = q) : ploadE C σ t (.optr j o) = some v := by
  subst ho
  unfold ploadE
  rw [hi]
  simp only [hc]
  unfold partP
  split
  · rename_i h; rw [h] at hd; cases hd
  · rename_i h; rw [h] at hd; cases hd
  · exact hv
end
end Go.PI
/- PLAIN VALUES: small facts of stores and lists. -/
namespace Go.PI
open IM
set_option maxRecDepth 10000
set_option maxHeartbeats 1000000
theorem getD_of {p : List Int} {i : Nat} {x : Int} (h : p[i]? = some x) : p.getD i 0 = x := by rw [List.getD_eq_getElem?_getD, h]; rfl
theorem push_get {σ0 : List StB} {b : StB} : (σ0 ++ [b])[σ0.length]? = some b := by simp
theorem push_at {σ0 : List StB} {b : StB} {n : Nat} (h : n = σ0.length) : (σ0 ++ [b])[n]? = some b := by subst h; simp
theorem push_set {σ0 : List StB} {b b' : StB} : (σ0 ++ [b]).set σ0.length b' = σ0 ++ [b'] := by simp
theorem push_cont {σ0 : List StB} {t : TypeId} {cs : List PV} : contOf (σ0 ++ [.live t cs]) σ0.length = some (t, cs) := by unfold contOf; rw [push_get]; rfl
theorem push_old {σ0 : List StB} {b : StB} {j : Nat} {x : StB} (h : σ0[j]? = some x) : (σ0 ++ [b])[j]? = some x := by
  rw [List.getElem?_append_left (List.getElem?_eq_some_iff.1 h).1]; exact h
theorem spl_one {cs : List PV} {i : Nat} {y : PV} (h : i < cs.length) : pspl cs i [y] = cs.set i y := by
  unfold pspl
  rw [List.set_eq_take_append_cons_drop, if_pos h]
  simp
theorem rep_flat (n : Nat) : (List.replicate n [pn 0]).flatten = (List.replicate n (0 : Int)).map pn := by
  rw [List.flatten_replicate_singleton, List.map_replicate]
theorem keep0 {τ : List StB} {b b' x : StB} (h : τ[0]? = some x) : ((τ ++ [b]).set τ.length b')[0]? = some x := by
  have hl := (List.getElem?_eq_some_iff.1 h).1
  rw [List.getElem?_set_ne (by omega), List.getElem?_append_left hl]
  exact h
theorem put_mid (P Q : List Int) (x y : Int) : pspl ((P ++ [x] ++ Q).map pn) P.length [pn y] = (P ++ y :: Q).map pn := by
  unfold pspl
  simp only [List.map_append, List.append_assoc]
  rw [List.take_left' (by simp), List.drop_append]
  simp
theorem load_liv {C : Ctx} {σ : List StB} {j o : Nat} {t t' : TypeId} {i : TI} {cs : List PV} {v : PV} (hj : σ[j]? = some (.liv t cs)) (hi : C.ty t' = some i) (hv : partP i cs o = some v) : ploadE C σ t' (.optr j o) = some v := by
  have h1 : contOf σ j = none := by unfold contOf; rw [hj]; rfl
  unfold ploadE
  rw [hi]
  simp only [h1, livOf_of hj]
  exact hv
theorem partc {σ : List StB} : ∀ {l : List (Nat × PV)} {K : List (Nat × PV) → List StB → Prop}, (l.all fun p => cloA p.2) = true → K l σ → PartK σ l K
  | [], _, _, h => ⟨h⟩
  | (i, p) :: l, K, hc, h => by
    simp only [List.all_cons, Bool.and_eq_true] at hc
    exact ⟨frzAK_clo hc.1 (partc (K := fun ps' σ'' => K ((i, p) :: ps') σ'') hc.2 h).out⟩
theorem Cm.ct {C : Ctx} {g : FuncId} {ps : List PV} {d : Nat} {Q : PV → List StB → Prop} {Q' : PV → Prop} (h : Cm C g ps [] d Q) (hq : ∀ r σ', Q r σ' → frzAK σ' r fun p _ => Q' p) : Ct C g ps d Q' := by
  intro H W avs hw hr hn
  have I : Sto H W d [] 0 W [] H := ⟨hn, Nat.zero_le _, Nat.le_refl _, Nat.le_refl _, fun _ _ => rfl, hw, fun _ h => h, fun _ h => .inl h, rfl, fun i b h => by simp at h, fun i t l b h => by simp at h, fun i t l b h => by simp at h, fun i j b h => by simp at h, fun i t l b h => by simp at h, fun i t l b h => by simp at h, fun i l b h => by simp at h⟩
  refine (h H W d 0 W [] H avs I (by omega) (RelVs.clo hr)).mono ?_
  rintro v H' ⟨r, σ', k', W', β', E, I', hv, hQ, hk⟩
  obtain ⟨p, σ2, W2, f, r2, hp⟩ := frzAK_ok (hq r σ' hQ) I' hv
  exact ⟨p, hp, r2.mono (fun _ _ _ => rfl) (fun A _ h => f.2.1.w0 A h), I'.lo, by have := I'.hi; omega, I'.keep⟩
def Wrt (σ σ' : List StB) (r : PV) (xs : List Int) : Prop :=
  ∃ j, (r = .own j 0 xs.length xs.length 1 ∨ r = .ownu j xs.length 1) ∧ σ'[j]? = some (.live 3 (xs.map pn)) ∧ σ.length ≤ j ∧ ∀ (i : Nat) (b : StB), σ[i]? = some b → σ'[i]? = some b
theorem Wrt.fz {σ σ' : List StB} {r : PV} {xs : List Int} (h : Wrt σ σ' r xs) : frzAK σ' r fun p _ => p = pIs xs := by
  obtain ⟨j, rfl | rfl, h1, -, -⟩ := h
  · exact ⟨3, _, _, contOf_live h1, ⟨by simp, Nat.le_refl _⟩, rfl, by show PV.lst _ _ = _; rw [List.drop_zero, List.take_of_length_le (by simp)]; rfl⟩
  · exact ⟨3, _, _, contOf_live h1, ⟨by simp, fun _ => rfl⟩, rfl, by show PV.lst _ _ = _; rw [List.take_of_length_le (by simp)]; rfl⟩
end Go.PI
/- MORE OF INTEGERS AS LISTS: digits of any integer, order, division. -/
namespace Go.PI.IM
theorem ilt_or (a b : Int) : a < b ∨ b ≤ a := by omega
theorem digF_ok (f : Nat) : ∀ n : Nat, n < 2 ^ (26 * f) → valN (digF f n) = n ∧ (∀ x ∈ digF f n, x < 100000000) ∧ TopN (digF f n) ∧ (n ≠ 0 → digF f n ≠ []) := by
  induction f with
  | zero => intro n h; simp at h; subst h; exact ⟨rfl, fun x hx => by simp [digF] at hx, fun t ht => by simp [digF] at ht, fun h => absurd rfl h⟩
  | succ f ih =>
    intro n h
    unfold digF
    by_cases h0 : n = 0
    · rw [if_pos h0]; exact ⟨by rw [h0]; rfl, fun x hx => (List.not_mem_nil hx).elim, fun t ht => by simp at ht, fun h => absurd h0 h⟩
    · rw [if_neg h0]
      have hb : n / 100000000 < 2 ^ (26 * f) := by
        rw [Nat.mul_add, Nat.pow_add] at h
        have : (2:Nat) ^ (26 * 1) = 67108864 := by decide
        rw [this] at h
        omega
      obtain ⟨h1, h2, h3, h4⟩ := ih (n / 100000000) hb
      refine ⟨by simp only [valN, h1]; omega, ?_, ?_, by simp⟩
      · intro x hx
        rcases List.mem_cons.1 hx with rfl | hx
        · omega
        · exact h2 x hx
      · intro t ht
        by_cases hz : n / 100000000 = 0
        · rw [hz] at ht
          have : digF f 0 = [] := by cases f <;> simp [digF]
          rw [this] at ht
          simp at ht
          omega
        · have hne := h4 hz
          rw [List.getLast?_cons_of_ne_nil hne] at ht
          exact h3 t ht
theorem digN_ok (n : Nat) : valN (digN n) = n ∧ (∀ x ∈ digN n, x < 100000000) ∧ TopN (digN n) := by
  have hb : n < 2 ^ (26 * (n.log2 / 26 + 1)) := by
    have h1 : n < 2 ^ (n.log2 + 1) := Nat.lt_log2_self
    exact Nat.lt_of_lt_of_le h1 (Nat.pow_le_pow_right (by decide) (by omega))
  obtain ⟨h1, h2, h3, -⟩ := digF_ok _ n hb
  exact ⟨h1, h2, h3⟩
theorem top_of_last {xs : List Int} (h : ∀ t, xs.getLast? = some t → t ≠ 0) : Top xs := by
  rcases List.eq_nil_or_concat xs with rfl | ⟨ys, t, rfl⟩
  · exact .inl rfl
  · exact .inr ⟨ys, t, by simp, h t (by simp)⟩
theorem digits_ok (v : Int) : val (digits v) = v ∧ Nrm (digits v) := by
  cases v with
  | ofNat n =>
    obtain ⟨h1, h2, h3⟩ := digN_ok n
    refine ⟨by simp only [digits]; rw [val_ofNat, h1]; rfl, .inl ?_, top_of_last ?_⟩
    · intro x hx
      obtain ⟨k, hk, rfl⟩ := List.mem_map.1 hx
      have := h2 k hk
      exact ⟨by simp, by simp; omega⟩
    · intro t ht
      simp only [digits, List.getLast?_map, Option.map_eq_some_iff] at ht
      obtain ⟨k, hk, rfl⟩ := ht
      have := h3 k hk
      simp; exact this
  | negSucc n =>
    obtain ⟨h1, h2, h3⟩ := digN_ok (n + 1)
    refine ⟨?_, .inr ?_, top_of_last ?_⟩
    · have hv : val ((digN (n + 1)).map fun k => - Int.ofNat k) = - (valN (digN (n + 1)) : Int) := by
        rw [← val_ofNat, ← val_neg, List.map_map]; rfl
      simp only [digits]
      rw [hv, h1]; omega
    · intro x hx
      obtain ⟨k, hk, rfl⟩ := List.mem_map.1 hx
      have := h2 k hk
      exact ⟨by simp; omega, by simp⟩
    · intro t ht
      simp only [digits, List.getLast?_map, Option.map_eq_some_iff] at ht
      obtain ⟨k, hk, rfl⟩ := ht
      have := h3 k hk
      simp; exact this
theorem val_digits (v : Int) : val (digits v) = v := (digits_ok v).1
theorem nrm_digits (v : Int) : Nrm (digits v) := (digits_ok v).2
theorem digits_nil {v : Int} : digits v = [] ↔ v = 0 := ⟨fun h => by rw [← val_digits v, h]; rfl, fun h => by subst h; rfl⟩
def Dig (xs : List Int) : Prop := ∀ x ∈ xs, 0 ≤ x ∧ x < 100000000
theorem Dig.val {xs : List Int} (h : Dig xs) : 0 ≤ IM.val xs ∧ IM.val xs < pw xs.length := by
  induction xs with
  | nil => exact ⟨Int.le_refl _, by decide⟩
  | cons x xs ih =>
    have h1 := h x (by simp)
    have h2 := ih fun y hy => h y (by simp [hy])
    simp only [IM.val, List.length_cons, pw]
    omega
theorem Dig.nrm {xs : List Int} (h : Dig xs) (ht : Top xs) : Nrm xs := ⟨.inl fun x hx => h x hx, ht⟩
theorem Dig.trim {xs : List Int} (h : Dig xs) : trimL xs = digits (IM.val xs) := by
  rw [← digits_val (Dig.nrm (fun x hx => h x (trim_mem xs x hx)) (trim_top xs)), trim_val]
theorem Dig.sub {xs ys : List Int} (h : Dig ys) (k : ∀ x ∈ xs, x ∈ ys) : Dig xs := fun x hx => h x (k x hx)
theorem nrm_pos {xs : List Int} (h : Nrm xs) (hp : 0 ≤ val xs) : Dig xs := by
  obtain ⟨h1 | h1, h2⟩ := h
  · exact fun x hx => h1 x hx
  · have hd : Dig (xs.map fun x => -x) := fun x hx => by
      obtain ⟨y, hy, rfl⟩ := List.mem_map.1 hx
      have := h1 y hy; omega
    have hv := hd.val
    rw [val_neg] at hv
    have h0 : val xs = 0 := by omega
    have := digits_val ⟨.inr h1, h2⟩
    rw [h0] at this
    rw [← this]
    intro x hx; simp [digits, digN, digF] at hx
theorem nrm_neg {xs : List Int} (h : Nrm xs) : Nrm (xs.map fun x => -x) := by
  obtain ⟨h1, h2⟩ := h
  refine ⟨?_, ?_⟩
  · rcases h1 with h1 | h1
    · refine .inr fun x hx => ?_
      obtain ⟨y, hy, rfl⟩ := List.mem_map.1 hx
      have := h1 y hy; omega
    · refine .inl fun x hx => ?_
      obtain ⟨y, hy, rfl⟩ := List.mem_map.1 hx
      have := h1 y hy; omega
  · rcases h2 with rfl | ⟨ys, t, rfl, ht⟩
    · exact .inl rfl
    · exact .inr ⟨ys.map (fun x => -x), -t, by simp, by omega⟩
theorem negd (v : Int) : (digits v).map (fun x => -x) = digits (-v) := by
  rw [← digits_val (nrm_neg (nrm_digits v)), val_neg, val_digits]
theorem val_top {ys : List Int} {t : Int} (h : Dig ys) : pw ys.length * t ≤ val (ys ++ [t]) ∧ val (ys ++ [t]) < pw ys.length * (t + 1) := by
  have := h.val
  rw [val_append]
  simp only [val]
  rw [Int.mul_add, Int.mul_add]
  omega
theorem pw_succ (n : Nat) : pw (n + 1) = 100000000 * pw n := rfl
theorem pw_mono {m n : Nat} (h : m ≤ n) : pw m ≤ pw n := by
  obtain ⟨k, rfl⟩ : ∃ k, n = m + k := ⟨n - m, by omega⟩
  rw [pw_add]
  have := pw_pos m; have := pw_pos k
  have := Int.mul_le_mul_of_nonneg_left (show 1 ≤ pw k by omega) (show 0 ≤ pw m by omega)
  omega
theorem nrm_len {xs : List Int} (h : Dig xs) (ht : Top xs) (hne : xs ≠ []) : pw (xs.length - 1) ≤ val xs ∧ val xs < pw xs.length := by
  refine ⟨?_, h.val.2⟩
  rcases ht with rfl | ⟨ys, t, rfl, h0⟩
  · exact absurd rfl hne
  · have hd : Dig ys := fun x hx => h x (by simp [hx])
    have := (val_top (t := t) hd).1
    have ht := h t (by simp)
    have hp := pw_pos ys.length
    simp only [List.length_append, List.length_singleton, Nat.add_sub_cancel]
    have : pw ys.length * 1 ≤ pw ys.length * t := Int.mul_le_mul_of_nonneg_left (by omega) (by omega)
    omega
def cmpI (a b : Int) : Int := if a < b then -1 else if b < a then 1 else 0
theorem cmp_first {lo lo' hi : List Int} {e e' : Int} (hl : lo.length = lo'.length) (hne : e ≠ e') (hlo : (Dig lo ∧ Dig lo') ∨ (Dig (lo.map fun x => -x) ∧ Dig (lo'.map fun x => -x))) : cmpI (val (lo ++ e :: hi)) (val (lo' ++ e' :: hi)) = cmpI e e' := by
  rw [val_append, val_append, ← hl]
  simp only [val]
  have hp := pw_pos lo.length
  have hb : -pw lo.length < val lo - val lo' ∧ val lo - val lo' < pw lo.length := by
    rcases hlo with ⟨h1, h2⟩ | ⟨h1, h2⟩
    · have := h1.val; have := h2.val; rw [← hl] at this; omega
    · have := h1.val; have := h2.val; rw [val_neg, List.length_map] at *; rw [← hl] at this; omega
  generalize val lo = a at *
  generalize val lo' = b at *
  generalize pw lo.length = p at *
  generalize 100000000 * val hi = c
  rw [Int.mul_add, Int.mul_add]
  rcases Int.lt_or_gt_of_ne hne with h | h
  · have : p * e + p ≤ p * e' := by
      have := Int.mul_le_mul_of_nonneg_left (show e + 1 ≤ e' by omega) (show (0:Int) ≤ p by omega)
      rw [Int.mul_add] at this; omega
    unfold cmpI
    rw [if_pos (by omega), if_pos h]
  · have : p * e' + p ≤ p * e := by
      have := Int.mul_le_mul_of_nonneg_left (show e' + 1 ≤ e by omega) (show (0:Int) ≤ p by omega)
      rw [Int.mul_add] at this; omega
    unfold cmpI
    rw [if_neg (by omega), if_pos (by omega), if_neg (by omega), if_pos h]
structure Dgt (P l2 lv u0 u1 u2 v1 v2 : Int) : Prop where
  hP : 0 < P
  hl2 : 0 ≤ l2 ∧ l2 < P
  hlv : 0 ≤ lv ∧ lv < P
  hu0 : 0 ≤ u0 ∧ u0 < 100000000
  hu1 : 0 ≤ u1 ∧ u1 < 100000000
  hu2 : 0 ≤ u2 ∧ u2 < 100000000
  hv1 : 50000000 ≤ v1 ∧ v1 < 100000000
  hv2 : 0 ≤ v2 ∧ v2 < 100000000
  hlt : l2 + P * (u2 + 100000000 * (u1 + 100000000 * u0)) < 100000000 * (lv + P * (v2 + 100000000 * v1))
section
variable {P l2 lv u0 u1 u2 v1 v2 : Int} (D : Dgt P l2 lv u0 u1 u2 v1 v2)
include D
theorem Dgt.u0_le : u0 ≤ v1 := by
  obtain ⟨hP, h1, h2, h3, h4, h5, h6, h7, h8⟩ := D
  rcases ilt_or v1 u0 with h | h
  · exfalso
    have e1 : P * (u2 + 100000000 * (u1 + 100000000 * u0)) ≥ P * (100000000 * (100000000 * (v1 + 1))) := Int.mul_le_mul_of_nonneg_left (by omega) (by omega)
    have e2 : P * (v2 + 100000000 * v1) ≤ P * (100000000 * (v1 + 1) - 1) := Int.mul_le_mul_of_nonneg_left (by omega) (by omega)
    have e3 : P * (100000000 * (100000000 * (v1 + 1))) = 100000000 * (P * (100000000 * (v1 + 1))) := by grind
    have e4 : P * (100000000 * (v1 + 1) - 1) = P * (100000000 * (v1 + 1)) - P := by grind
    omega
  · exact h
theorem Dgt.start {g r : Int} (hg : g * v1 + r = u0 * 100000000 + u1) (hr : 0 ≤ r ∧ r < v1) : l2 + P * (u2 + 100000000 * (u1 + 100000000 * u0)) < (g + 1) * (lv + P * (v2 + 100000000 * v1)) ∧ 0 ≤ g ∧ g ≤ 100000001 := by
  have hle := D.u0_le
  obtain ⟨hP, h1, h2, h3, h4, h5, h6, h7, h8⟩ := D
  have hg0 : 0 ≤ g := by
    rcases ilt_or g 0 with h | h
    · exfalso
      have : g * v1 ≤ (-1) * v1 := Int.mul_le_mul_of_nonneg_right (by omega) (by omega)
      omega
    · exact h
  refine ⟨?_, hg0, ?_⟩
  · have e1 : (u1 + 100000000 * u0) + 1 ≤ (g + 1) * v1 := by grind
    have e2 : P * (u2 + 100000000 * (u1 + 100000000 * u0)) + P ≤ P * (100000000 * ((g + 1) * v1)) := by
      have := Int.mul_le_mul_of_nonneg_left (show u2 + 100000000 * (u1 + 100000000 * u0) + 1 ≤ 100000000 * ((g + 1) * v1) by omega) (show (0:Int) ≤ P by omega)
      rw [Int.mul_add] at this; omega
    have e3 : P * (100000000 * ((g + 1) * v1)) ≤ (g + 1) * (lv + P * (v2 + 100000000 * v1)) := by
      have e4 : (g + 1) * (P * (100000000 * v1)) ≤ (g + 1) * (lv + P * (v2 + 100000000 * v1)) := by
        refine Int.mul_le_mul_of_nonneg_left ?_ (by omega)
        have : 0 ≤ P * v2 := Int.mul_nonneg (by omega) (by omega)
        rw [Int.mul_add]; omega
      have e5 : P * (100000000 * ((g + 1) * v1)) = (g + 1) * (P * (100000000 * v1)) := by grind
      omega
    omega
  · rcases ilt_or 100000001 g with h | h
    · exfalso
      have e1 : 100000002 * v1 ≤ g * v1 := Int.mul_le_mul_of_nonneg_right (by omega) (by omega)
      omega
    · exact h
theorem Dgt.down {g r : Int} (hg : g * v1 + r = u0 * 100000000 + u1) (hr : 0 ≤ r) (hg0 : 0 ≤ g) (h : 100000000 ≤ g ∨ r * 100000000 + u2 < g * v2) : l2 + P * (u2 + 100000000 * (u1 + 100000000 * u0)) < g * (lv + P * (v2 + 100000000 * v1)) ∧ 1 ≤ g := by
  obtain ⟨hP, h1, h2, h3, h4, h5, h6, h7, h8⟩ := D
  have hV : 0 ≤ lv + P * (v2 + 100000000 * v1) := by
    have : 0 ≤ P * (v2 + 100000000 * v1) := Int.mul_nonneg (by omega) (by omega)
    omega
  rcases h with h | h
  · refine ⟨?_, by omega⟩
    have := Int.mul_le_mul_of_nonneg_right h hV
    omega
  · have hg1 : 1 ≤ g := by
      rcases ilt_or g 1 with h' | h'
      · have : g = 0 := by omega
        subst this
        omega
      · exact h'
    refine ⟨?_, hg1⟩
    have e1 : P * (u2 + 100000000 * (u1 + 100000000 * u0)) + P ≤ P * (g * (v2 + 100000000 * v1)) := by
      have := Int.mul_le_mul_of_nonneg_left (show u2 + 100000000 * (u1 + 100000000 * u0) + 1 ≤ g * (v2 + 100000000 * v1) by grind) (show (0:Int) ≤ P by omega)
      rw [Int.mul_add] at this; omega
    have e2 : g * (lv + P * (v2 + 100000000 * v1)) = g * lv + P * (g * (v2 + 100000000 * v1)) := by grind
    have e3 : 0 ≤ g * lv := Int.mul_nonneg (by omega) (by omega)
    omega
theorem Dgt.keep {g r : Int} (hg : g * v1 + r = u0 * 100000000 + u1) (hr : 0 ≤ r) (hg0 : 0 ≤ g) (h : 100000000 ≤ r ∨ (g < 100000000 ∧ g * v2 ≤ r * 100000000 + u2)) :
    g < 100000000 ∧ g * (lv + P * (v2 + 100000000 * v1)) ≤ l2 + P * (u2 + 100000000 * (u1 + 100000000 * u0)) + (lv + P * (v2 + 100000000 * v1)) := by
  have hle := D.u0_le
  obtain ⟨hP, h1, h2, h3, h4, h5, h6, h7, h8⟩ := D
  have hgB : g < 100000000 := by
    rcases h with h | h
    · rcases ilt_or g 100000000 with h' | h'
      · exact h'
      · exfalso
        have := Int.mul_le_mul_of_nonneg_right h' (show (0:Int) ≤ v1 by omega)
        omega
    · exact h.1
  have hk : g * v2 ≤ r * 100000000 + u2 := by
    rcases h with h | h
    · have e1 : g * v2 ≤ 99999999 * v2 := Int.mul_le_mul_of_nonneg_right (by omega) (by omega)
      omega
    · exact h.2
  refine ⟨hgB, ?_⟩
  have e1 : P * (g * (v2 + 100000000 * v1)) ≤ P * (u2 + 100000000 * (u1 + 100000000 * u0)) := Int.mul_le_mul_of_nonneg_left (by grind) (by omega)
  have e2 : g * (lv + P * (v2 + 100000000 * v1)) = g * lv + P * (g * (v2 + 100000000 * v1)) := by grind
  have e3 : g * lv ≤ 99999999 * P := by
    have a1 : g * lv ≤ g * P := Int.mul_le_mul_of_nonneg_left (by omega) hg0
    have a2 : g * P ≤ 99999999 * P := Int.mul_le_mul_of_nonneg_right (by omega) (by omega)
    omega
  have e4 : P * (100000000 * 50000000) ≤ P * (v2 + 100000000 * v1) := Int.mul_le_mul_of_nonneg_left (by omega) (by omega)
  omega
end
end Go.PI.IM
/- EUCLID'S ALGORITHM BY THE FIRST ELEMENTS (LEHMER). -/
namespace Go.PI.IM
structure Leh (P tX tY U V a b c d u v : Int) : Prop where
  hP : 0 < P
  hX : 0 ≤ tX ∧ tX < P
  hY : 0 ≤ tY ∧ tY < P
  hU : 0 ≤ U ∧ U ≤ 10000000000000000
  hV : 0 ≤ V ∧ V ≤ 10000000000000000
  hu : u = a * U + b * V
  hv : v = c * U + d * V
  hs : (0 ≤ a ∧ b ≤ 0 ∧ c ≤ 0 ∧ 0 ≤ d ∧ a * d - b * c = 1) ∨ (a ≤ 0 ∧ 0 ≤ b ∧ 0 ≤ c ∧ d ≤ 0 ∧ a * d - b * c = -1)
  hk : 0 ≤ u + a ∧ 0 ≤ u + b ∧ 0 ≤ v + c ∧ 0 ≤ v + d
  ha : -100000000 ≤ a ∧ a ≤ 100000000
  hb : -100000000 ≤ b ∧ b ≤ 100000000
  hc : -100000000 ≤ c ∧ c ≤ 100000000
  hd : -100000000 ≤ d ∧ d ≤ 100000000
  hu2 : 0 ≤ u ∧ u ≤ 10000000000000000
  hv2 : 0 ≤ v ∧ v ≤ 10000000000000000
  hXY : 0 ≤ c * (tX + P * U) + d * (tY + P * V) ∧ c * (tX + P * U) + d * (tY + P * V) ≤ a * (tX + P * U) + b * (tY + P * V)
  hpr : (a = 1 ∧ b = 0 ∧ c = 0 ∧ d = 1) ∨ (2 * ((a * (tX + P * U) + b * (tY + P * V)) * (c * (tX + P * U) + d * (tY + P * V))) ≤ (tX + P * U) * (tY + P * V) ∧ c * (tX + P * U) + d * (tY + P * V) < a * (tX + P * U) + b * (tY + P * V))
  hg : ∀ k : Int, (k ∣ a * (tX + P * U) + b * (tY + P * V) ∧ k ∣ c * (tX + P * U) + d * (tY + P * V)) ↔ (k ∣ tX + P * U ∧ k ∣ tY + P * V)
theorem between {P a b tX tY u : Int} (hP : 0 < P) (hX : 0 ≤ tX ∧ tX < P) (hY : 0 ≤ tY ∧ tY < P) (ha : 0 ≤ a) (hb : b ≤ 0) : P * (u + b) ≤ P * u + a * tX + b * tY ∧ P * u + a * tX + b * tY ≤ P * (u + a) := by
  have e1 : 0 ≤ a * tX := Int.mul_nonneg ha hX.1
  have e2 : a * tX ≤ a * P := Int.mul_le_mul_of_nonneg_left (by omega) ha
  have e3 : 0 ≤ (-b) * tY := Int.mul_nonneg (by omega) hY.1
  have e4 : (-b) * tY ≤ (-b) * P := Int.mul_le_mul_of_nonneg_left (by omega) (by omega)
  rw [Int.neg_mul] at e3 e4
  rw [Int.neg_mul] at e4
  rw [Int.mul_add, Int.mul_add, Int.mul_comm P b, Int.mul_comm P a]
  omega
theorem step_core {P X Y ul uh vl vh q : Int} (hP : 0 < P) (hq : 0 ≤ q) (hX : P * ul ≤ X ∧ X ≤ P * uh) (hY : P * vl ≤ Y ∧ Y ≤ P * vh) (h1 : q * vh ≤ ul) (h2 : uh + 1 ≤ (q + 1) * vl) : 0 ≤ X - q * Y ∧ X - q * Y < Y := by
  have e1 : q * Y ≤ q * (P * vh) := Int.mul_le_mul_of_nonneg_left hY.2 hq
  have e2 : P * (q * vh) ≤ P * ul := Int.mul_le_mul_of_nonneg_left h1 (by omega)
  have e3 : q * (P * vh) = P * (q * vh) := by grind
  have e4 : P * (uh + 1) ≤ P * ((q + 1) * vl) := Int.mul_le_mul_of_nonneg_left h2 (by omega)
  have e5 : (q + 1) * (P * vl) ≤ (q + 1) * Y := Int.mul_le_mul_of_nonneg_left hY.1 (by omega)
  have e6 : (q + 1) * (P * vl) = P * ((q + 1) * vl) := by grind
  have e7 : (q + 1) * Y = q * Y + Y := by grind
  rw [Int.mul_add] at e4
  omega
section
variable {P tX tY U V a b c d u v : Int} (L : Leh P tX tY U V a b c d u v)
include L
theorem Leh.det_u : (0 ≤ a → 0 ≤ d → b ≤ 0 → c ≤ 0 → a * d - b * c = 1 → d * u + (-b) * v = U ∧ a * v + (-c) * u = V) ∧ (a ≤ 0 → d ≤ 0 → 0 ≤ b → 0 ≤ c → a * d - b * c = -1 → (-d) * u + b * v = U ∧ (-a) * v + c * u = V) := by
  have hu := L.hu
  have hv := L.hv
  refine ⟨fun _ _ _ _ h => ⟨?_, ?_⟩, fun _ _ _ _ h => ⟨?_, ?_⟩⟩
  · have : d * u + (-b) * v = (a * d - b * c) * U := by rw [hu, hv]; grind
    rw [this, h, Int.one_mul]
  · have : a * v + (-c) * u = (a * d - b * c) * V := by rw [hu, hv]; grind
    rw [this, h, Int.one_mul]
  · have : (-d) * u + b * v = -((a * d - b * c) * U) := by rw [hu, hv]; grind
    rw [this, h]; omega
  · have : (-a) * v + c * u = -((a * d - b * c) * V) := by rw [hu, hv]; grind
    rw [this, h]; omega
theorem Leh.small {q : Int} (hq : 0 ≤ q) (hq2 : q ≤ u + a) (h3 : q * (v + c) ≤ u + a) : -20000000000000000 ≤ q * c ∧ q * c ≤ 20000000000000000 ∧ -20000000000000000 ≤ q * d ∧ q * d ≤ 20000000000000000 ∧ -100000000000000000 ≤ q * v ∧ q * v ≤ 100000000000000000 := by
  obtain ⟨g1, g2⟩ := L.det_u
  have ha := L.ha; have hb := L.hb; have hc := L.hc; have hd := L.hd
  have hu2 := L.hu2; have hv2 := L.hv2; have hU := L.hU; have hV := L.hV
  have key : ∀ w : Int, 0 ≤ w → w ≤ 100000000 → w * u ≤ 10000000000000000 → 0 ≤ q * w ∧ q * w ≤ 20000000000000000 := fun w hw hw2 hwu => by
    have e1 : q * w ≤ (u + a) * w := Int.mul_le_mul_of_nonneg_right hq2 hw
    have e2 : a * w ≤ 100000000 * w := Int.mul_le_mul_of_nonneg_right (by omega) hw
    have e3 : (u + a) * w = w * u + a * w := by grind
    have e4 : 0 ≤ q * w := Int.mul_nonneg hq hw
    omega
  have hqv : q * (v + c) = q * v + q * c := Int.mul_add _ _ _
  have hqv0 : 0 ≤ q * v := Int.mul_nonneg hq hv2.1
  rcases L.hs with ⟨s1, s2, s3, s4, s5⟩ | ⟨s1, s2, s3, s4, s5⟩
  · obtain ⟨e1, e2⟩ := g1 s1 s4 s2 s3 s5
    have p1 : 0 ≤ (-b) * v := Int.mul_nonneg (by omega) hv2.1
    have p2 : 0 ≤ a * v := Int.mul_nonneg s1 hv2.1
    have k1 := key (-c) (by omega) (by omega) (by omega)
    have k2 := key d (by omega) (by omega) (by omega)
    rw [Int.mul_neg] at k1
    omega
  · obtain ⟨e1, e2⟩ := g2 s1 s4 s2 s3 s5
    have p1 : 0 ≤ b * v := Int.mul_nonneg s2 hv2.1
    have p2 : 0 ≤ (-a) * v := Int.mul_nonneg (by omega) hv2.1
    have k1 := key c (by omega) (by omega) (by omega)
    have k2 := key (-d) (by omega) (by omega) (by omega)
    rw [Int.mul_neg] at k2
    omega
theorem Leh.rest {q : Int} (hq : 0 ≤ q) (h1 : q * (v + c) ≤ u + a) (h1' : u + a + 1 ≤ (q + 1) * (v + c)) (h2 : q * (v + d) ≤ u + b) (h2' : u + b + 1 ≤ (q + 1) * (v + d)) :
    0 ≤ (a * (tX + P * U) + b * (tY + P * V)) - q * (c * (tX + P * U) + d * (tY + P * V)) ∧ (a * (tX + P * U) + b * (tY + P * V)) - q * (c * (tX + P * U) + d * (tY + P * V)) < c * (tX + P * U) + d * (tY + P * V) := by
  have eX : a * (tX + P * U) + b * (tY + P * V) = P * u + a * tX + b * tY := by rw [L.hu]; grind
  have eX' : a * (tX + P * U) + b * (tY + P * V) = P * u + b * tY + a * tX := by rw [L.hu]; grind
  have eY : c * (tX + P * U) + d * (tY + P * V) = P * v + c * tX + d * tY := by rw [L.hv]; grind
  have eY' : c * (tX + P * U) + d * (tY + P * V) = P * v + d * tY + c * tX := by rw [L.hv]; grind
  rcases L.hs with ⟨s1, s2, s3, s4, s5⟩ | ⟨s1, s2, s3, s4, s5⟩
  · have b1 := between (u := u) L.hP L.hX L.hY s1 s2
    have b2 := between (u := v) L.hP L.hY L.hX s4 s3
    rw [← eX] at b1
    rw [← eY'] at b2
    exact step_core L.hP hq b1 b2 h2 h1'
  · have b1 := between (u := u) L.hP L.hY L.hX s2 s1
    have b2 := between (u := v) L.hP L.hX L.hY s3 s4
    rw [← eX'] at b1
    rw [← eY] at b2
    exact step_core L.hP hq b1 b2 h1 h2'
theorem Leh.step {q : Int} (hq : 0 ≤ q) (h1 : q * (v + c) ≤ u + a) (h1' : u + a + 1 ≤ (q + 1) * (v + c)) (h2 : q * (v + d) ≤ u + b) (h2' : u + b + 1 ≤ (q + 1) * (v + d))
    (hn : -100000000 ≤ a - q * c ∧ a - q * c ≤ 100000000) (hl : -100000000 ≤ b - q * d ∧ b - q * d ≤ 100000000) :
    Leh P tX tY U V c d (a - q * c) (b - q * d) v (u - q * v) ∧ (a - q * c) * (tX + P * U) + (b - q * d) * (tY + P * V) < c * (tX + P * U) + d * (tY + P * V) := by
  obtain ⟨r1, r2⟩ := L.rest hq h1 h1' h2 h2'
  have hR : (a - q * c) * (tX + P * U) + (b - q * d) * (tY + P * V) = (a * (tX + P * U) + b * (tY + P * V)) - q * (c * (tX + P * U) + d * (tY + P * V)) := by grind
  have hqv0 : 0 ≤ q * v := Int.mul_nonneg hq L.hv2.1
  have hk1 : 0 ≤ (u - q * v) + (a - q * c) := by
    have : q * (v + c) = q * v + q * c := Int.mul_add _ _ _
    omega
  have hk2 : 0 ≤ (u - q * v) + (b - q * d) := by
    have : q * (v + d) = q * v + q * d := Int.mul_add _ _ _
    omega
  have hu2 := L.hu2
  have hXY := L.hXY
  have hg := L.hg
  have hpr := L.hpr
  rw [← hR] at r1 r2
  have e4 : (a * (tX + P * U) + b * (tY + P * V)) * (c * (tX + P * U) + d * (tY + P * V)) ≤ (tX + P * U) * (tY + P * V) := by
    rcases hpr with ⟨rfl, rfl, rfl, rfl⟩ | ⟨h, -⟩
    · simp only [Int.one_mul, Int.zero_mul, Int.add_zero, Int.zero_add]; exact Int.le_refl _
    · have : 0 ≤ (a * (tX + P * U) + b * (tY + P * V)) * (c * (tX + P * U) + d * (tY + P * V)) := Int.mul_nonneg (by omega) hXY.1
      omega
  refine ⟨⟨L.hP, L.hX, L.hY, L.hU, L.hV, L.hv, ?_, ?_, ⟨L.hk.2.2.1, L.hk.2.2.2, hk1, hk2⟩, L.hc, L.hd, hn, hl, L.hv2, ?_, ⟨r1, Int.le_of_lt r2⟩, .inr ⟨?_, r2⟩, fun k => ?_⟩, r2⟩
  · rw [L.hu, L.hv]; grind
  · rcases L.hs with ⟨s1, s2, s3, s4, s5⟩ | ⟨s1, s2, s3, s4, s5⟩
    · have e1 : 0 ≤ q * (-c) := Int.mul_nonneg hq (by omega)
      have e2 : 0 ≤ q * d := Int.mul_nonneg hq s4
      rw [Int.mul_neg] at e1
      exact .inr ⟨s3, s4, by omega, by omega, by grind⟩
    · have e1 : 0 ≤ q * c := Int.mul_nonneg hq s3
      have e2 : 0 ≤ q * (-d) := Int.mul_nonneg hq (by omega)
      rw [Int.mul_neg] at e2
      exact .inl ⟨s3, s4, by omega, by omega, by grind⟩
  · refine ⟨?_, by omega⟩
    rcases L.hs with ⟨s1, s2, s3, s4, s5⟩ | ⟨s1, s2, s3, s4, s5⟩
    · have e1 : 0 ≤ q * d := Int.mul_nonneg hq s4
      omega
    · have e1 : 0 ≤ q * c := Int.mul_nonneg hq s3
      omega
  · rw [hR] at r1 r2 ⊢
    generalize a * (tX + P * U) + b * (tY + P * V) = X1 at *
    generalize c * (tX + P * U) + d * (tY + P * V) = Y1 at *
    have hq1 : 1 ≤ q := by
      rcases ilt_or q 1 with h | h
      · have : q = 0 := by omega
        subst this
        omega
      · exact h
    have e0 : 1 * Y1 ≤ q * Y1 := Int.mul_le_mul_of_nonneg_right hq1 hXY.1
    have e1 : 2 * (X1 - q * Y1) ≤ X1 := by omega
    have e2 : 2 * (Y1 * (X1 - q * Y1)) ≤ X1 * Y1 := by
      have := Int.mul_le_mul_of_nonneg_right e1 hXY.1
      have e3 : 2 * (X1 - q * Y1) * Y1 = 2 * (Y1 * (X1 - q * Y1)) := by grind
      omega
    omega
  · rw [hR, ← hg k]
    constructor
    · rintro ⟨g1, g2⟩
      refine ⟨?_, g1⟩
      have := Int.dvd_add g2 (Int.dvd_mul_of_dvd_right (b := q) g1)
      rwa [Int.sub_add_cancel] at this
    · rintro ⟨g1, g2⟩
      exact ⟨g2, Int.dvd_sub g1 (Int.dvd_mul_of_dvd_right (b := q) g2)⟩
end
end Go.PI.IM
