/- Own work of the verifier: PvUse PvGt PvGen OgMath PiRowG PiImp. -/
import Derived.Test.YtefajaiioljjoaaOwAS
import Derived.Test.YtefajaiioljjoaaOwAK
import Derived.ProofKit
import Derived.LaidMore
import Derived.OpenShut
import Derived.Stop.Joined
import Derived.Below
import Derived.Test.YtefajaiioljjoaaOwAO
set_option linter.all false
set_option exponentiation.threshold 3000
set_option linter.deprecated false
/- PLAIN VALUES: what makes walks short. -/
namespace Go.PI
def Fz (v : PV) (σ : List StB) (p : PV) (σ' : List StB) : Prop := ∀ K : PV → List StB → Prop, K p σ' → frzAK σ v K
theorem fzL {n : Nat} {cs : List PV} {σ : List StB} : Fz (.lst n cs) σ (.lst n cs) σ := fun _ h => h
theorem fzN {σ : List StB} : Fz .nils σ (.lst 0 []) σ := fun _ h => h
theorem fzI {k : IntKind} {n : Int} {σ : List StB} : Fz (.int k n) σ (.int k n) σ := fun _ h => h
variable {dr : Bool} {C : Ctx} {c k d : Nat} {σ σ1 σ2 σ3 : List StB} {g : FuncId} {K : PV → List StB → Nat → Prop} {Q : PV → Prop}
theorem callc {ps : List PV} (h : Ct C g ps d Q) (hk : k + d ≤ c) (hK : ∀ r, Q r → K r σ (k + d)) : pcallK C c k σ g ps K := ⟨⟨d, hk, .inl ⟨Q, h, hK⟩⟩⟩
def clo : PV → Bool
  | .lst _ _ | .int _ _ | .bool _ | .str _ | .nilp | .nilf | .nilm | .nili | .fn _ | .lptr _ => true
  | _ => false
def clos : List PV → Bool
  | [] => true
  | p :: ps => clo p && clos ps
theorem frzK_clo {p : PV} (h : clo p = true) {K : PV → List StB → Prop} (hK : K p σ) : frzK σ p K := by
  cases p <;> first | exact hK | cases h
theorem frzsK_clo : ∀ {ps : List PV} {K : List PV → List StB → Prop}, clos ps = true → K ps σ → frzsK σ ps K
  | [], K, _, h => h
  | p :: ps, K, hc, h => by
    simp only [clos, Bool.and_eq_true] at hc
    exact frzK_clo hc.1 (frzsK_clo hc.2 h)
def cloA : PV → Bool
  | .agg cs => clos cs
  | .fnc _ cs => clos cs
  | p => clo p
theorem frzAK_clo {p : PV} (h : cloA p = true) {K : PV → List StB → Prop} (hK : K p σ) : frzAK σ p K := by
  cases p <;> simp only [cloA, clo] at h <;> first | cases h; done | exact hK | skip
  all_goals exact frzsK_clo h hK
def cloAs : List PV → Bool
  | [] => true
  | p :: ps => cloA p && cloAs ps
theorem frzAsK_clo : ∀ {ps : List PV} {K : List PV → List StB → Prop}, cloAs ps = true → K ps σ → frzAsK σ ps K
  | [], K, _, h => h
  | p :: ps, K, hc, h => by
    simp only [cloAs, Bool.and_eq_true] at hc
    exact frzAK_clo hc.1 (frzAsK_clo hc.2 h)
theorem callq {ps : List PV} (hc : cloAs ps = true) (h : Ct C g ps d Q) (hk : k + d ≤ c) (hK : ∀ r, Q r → K r σ (k + d)) : ArgK dr C c k σ g ps K := ⟨.inl (frzAsK_clo hc (callc h hk hK))⟩
theorem callqf {ps : List PV} {Q : TypeId → Nat → Nat → Nat → List PV → Prop} (hc : cloAs ps = true) (h : Cfr C g ps d Q) (hk : k + d ≤ c) (hK : ∀ ty n cp e cs, Q ty n cp e cs → K (.own σ.length 0 n cp e) (σ ++ [.live ty cs]) (k + d)) : ArgK dr C c k σ g ps K := ⟨.inl (frzAsK_clo hc ⟨⟨d, hk, .inr (.inl ⟨Q, h, hK⟩)⟩⟩)⟩
theorem cal1 {v p : PV} (h1 : Fz v σ p σ1) (h : Ct C g [p] d Q) (hk : k + d ≤ c) (hK : ∀ r, Q r → K r σ1 (k + d)) : ArgK dr C c k σ g [v] K := ⟨.inl (h1 _ (callc h hk hK))⟩
theorem cal2 {v w p q : PV} (h1 : Fz v σ p σ1) (h2 : Fz w σ1 q σ2) (h : Ct C g [p, q] d Q) (hk : k + d ≤ c) (hK : ∀ r, Q r → K r σ2 (k + d)) : ArgK dr C c k σ g [v, w] K :=
  ⟨.inl (h1 _ (h2 _ (callc h hk hK)))⟩
theorem endq {p : PV} {Q : PV → Prop} (h : cloA p = true) (hq : Q p) : EndK σ p Q := ⟨⟨[], show frzAK σ p fun r _ => Q r from frzAK_clo h hq⟩⟩
theorem endf {v p : PV} {Q : PV → Prop} (h : Fz v σ p σ1) (hq : Q p) : EndK σ v Q := ⟨⟨[], show frzAK σ v fun r _ => Q r from h _ hq⟩⟩
theorem endsq {ps : List PV} {Q : PV → Prop} (h : cloAs ps = true) (hq : Q (.tup ps)) : EndsK σ ps Q := ⟨⟨[], show frzAsK σ ps fun rs _ => Q (.tup rs) from frzAsK_clo h hq⟩⟩
theorem contOf_live {σ : List StB} {j : Nat} {t : TypeId} {cs : List PV} (h : σ[j]? = some (.live t cs)) : contOf σ j = some (t, cs) := by unfold contOf; rw [h]; rfl
def Gr {α : Type} (f : α → PV) (e : TypeId) (v : PV) (σ : List StB) (Xs : List α) : Prop :=
  (v = .nils ∧ Xs = []) ∨ (∃ j ty, v = .own j 0 Xs.length Xs.length 1 ∧ contOf σ j = some (ty, Xs.map f)) ∨ (∃ j, v = .ownu j Xs.length 1 ∧ σ[j]? = some (.live e (Xs.map f)))
theorem Gr.nil {α : Type} {f : α → PV} {e : TypeId} {σ : List StB} : Gr f e .nils σ [] := .inl ⟨rfl, rfl⟩
theorem Gr.fz {α : Type} {f : α → PV} {e : TypeId} {v : PV} {σ : List StB} {Xs : List α} (h : Gr f e v σ Xs) : ∃ σ', Fz v σ (.lst Xs.length (Xs.map f)) σ' := by
  rcases h with ⟨rfl, rfl⟩ | ⟨j, ty, rfl, h⟩ | ⟨j, rfl, h⟩
  · exact ⟨σ, fzN⟩
  · exact ⟨_, fun K hK => ⟨ty, _, _, h, ⟨by simp, by omega⟩, by rw [List.drop_zero, List.take_of_length_le (by simp)], hK⟩⟩
  · exact ⟨_, fun K hK => ⟨e, _, _, contOf_live h, ⟨by simp, fun _ => rfl⟩, by rw [List.take_of_length_le (by simp)], hK⟩⟩
theorem contOf_lt {σ : List StB} {j : Nat} {x : TypeId × List PV} (h : contOf σ j = some x) : j < σ.length := by
  unfold contOf at h
  cases hj : σ[j]? with
  | none => rw [hj] at h; cases h
  | some y => exact (List.getElem?_eq_some_iff.1 hj).1
theorem contOf_app {σ : List StB} {b : StB} {j : Nat} {x : TypeId × List PV} (h : contOf σ j = some x) : contOf (σ ++ [b]) j = some x := by
  have hj := contOf_lt h
  unfold contOf at h ⊢
  rw [List.getElem?_append_left hj]
  exact h
theorem Gr.push {α : Type} {f : α → PV} {e : TypeId} {v : PV} {σ : List StB} {Xs : List α} {b : StB} (h : Gr f e v σ Xs) : Gr f e v (σ ++ [b]) Xs := by
  rcases h with ⟨rfl, rfl⟩ | ⟨j, ty, rfl, h⟩ | ⟨j, rfl, h⟩
  · exact .inl ⟨rfl, rfl⟩
  · exact .inr (.inl ⟨j, ty, rfl, contOf_app h⟩)
  · exact .inr (.inr ⟨j, rfl, by rw [List.getElem?_append_left (List.getElem?_eq_some_iff.1 h).1]; exact h⟩)
def blkOf : PV → Option Nat
  | .own j _ _ _ _ => some j
  | .ownu j _ _ => some j
  | _ => none
theorem Gr.keep {α : Type} {f : α → PV} {e : TypeId} {v : PV} {σ σ' : List StB} {Xs : List α} (h : Gr f e v σ Xs) (k : ∀ j b, blkOf v = some j → σ[j]? = some b → σ'[j]? = some b) : Gr f e v σ' Xs := by
  rcases h with ⟨rfl, rfl⟩ | ⟨j, ty, rfl, h⟩ | ⟨j, rfl, h⟩
  · exact .inl ⟨rfl, rfl⟩
  · refine .inr (.inl ⟨j, ty, rfl, ?_⟩)
    unfold contOf at h ⊢
    cases hj : σ[j]? with
    | none => rw [hj] at h; cases h
    | some y => rw [hj] at h; rw [k j y rfl hj]; exact h
  · exact .inr (.inr ⟨j, rfl, k j _ rfl h⟩)
theorem Gr.blk {α : Type} {f : α → PV} {e : TypeId} {v : PV} {σ : List StB} {Xs : List α} (h : Gr f e v σ Xs) {j : Nat} (hj : blkOf v = some j) : j < σ.length := by
  rcases h with ⟨rfl, rfl⟩ | ⟨j', ty, rfl, h⟩ | ⟨j', rfl, h⟩
  · cases hj
  · cases hj; exact contOf_lt h
  · cases hj; exact (List.getElem?_eq_some_iff.1 h).1
def Cn {α : Type} (f : α → PV) (v : PV) (σ : List StB) (Xs : List α) : Prop :=
  (v = .nils ∧ Xs = []) ∨ ∃ j ty, contOf σ j = some (ty, Xs.map f) ∧ (v = .own j 0 Xs.length Xs.length 1 ∨ v = .ownu j Xs.length 1)
theorem Gr.cn {α : Type} {f : α → PV} {e : TypeId} {v : PV} {σ : List StB} {Xs : List α} (h : Gr f e v σ Xs) : Cn f v σ Xs := by
  rcases h with h | ⟨j, ty, rfl, h⟩ | ⟨j, rfl, h⟩
  · exact .inl h
  · exact .inr ⟨j, ty, h, .inl rfl⟩
  · exact .inr ⟨j, e, contOf_live h, .inr rfl⟩
theorem Cn.same {α : Type} {f : α → PV} {v : PV} {σ σ' : List StB} {Xs : List α} (h : Cn f v σ Xs) (k : ∀ j, contOf σ' j = contOf σ j) : Cn f v σ' Xs := by
  rcases h with h | ⟨j, ty, h, h2⟩
  · exact .inl h
  · exact .inr ⟨j, ty, by rw [k]; exact h, h2⟩
theorem Cn.push {α : Type} {f : α → PV} {v : PV} {σ : List StB} {Xs : List α} {b : StB} (h : Cn f v σ Xs) : Cn f v (σ ++ [b]) Xs := by
  rcases h with h | ⟨j, ty, h, h2⟩
  · exact .inl h
  · exact .inr ⟨j, ty, contOf_app h, h2⟩
theorem Cn.fz {α : Type} {f : α → PV} {v : PV} {σ : List StB} {Xs : List α} (h : Cn f v σ Xs) : ∃ σ', Fz v σ (.lst Xs.length (Xs.map f)) σ' ∧ (∀ j, contOf σ' j = contOf σ j) ∧ σ'.length = σ.length ∧ ∀ j b, blkOf v ≠ some j → σ[j]? = some b → σ'[j]? = some b := by
  rcases h with ⟨rfl, rfl⟩ | ⟨j, ty, h, rfl | rfl⟩
  · exact ⟨σ, fzN, fun _ => rfl, rfl, fun _ _ _ h => h⟩
  · refine ⟨_, fun K hK => ⟨ty, _, _, h, ⟨by simp, by omega⟩, by rw [List.drop_zero, List.take_of_length_le (by simp)], hK⟩, contOf_set h, by simp, fun j' b hj hb => ?_⟩
    rw [List.getElem?_set_ne (fun e => hj (by rw [← e]; rfl))]; exact hb
  · refine ⟨_, fun K hK => ⟨ty, _, _, h, ⟨by simp, fun _ => rfl⟩, by rw [List.take_of_length_le (by simp)], hK⟩, contOf_set h, by simp, fun j' b hj hb => ?_⟩
    rw [List.getElem?_set_ne (fun e => hj (by rw [← e]; rfl))]; exact hb
theorem part1 {v p : PV} {i : Nat} {K : List (Nat × PV) → List StB → Prop} (h1 : Fz v σ p σ1) (hK : K [(i, p)] σ1) : PartK σ [(i, v)] K := ⟨h1 _ hK⟩
theorem appGu {α : Type} {f : α → PV} {e t tx : TypeId} {rest : List TypeId} {v : PV} {Xs : List α} {y : α} {i m : Nat} {ty : TypeId} {σ : List StB} {ti xi ei : TI} (hg : Gr f e v σ Xs) (hx : contOf σ i = some (ty, [f y])) (ht : C.ty t = some ti) (htd : ti.desc = .slice e) (htx : C.ty tx = some xi) (he : C.ty e = some ei) (hd : decide (srcOk xi.desc = true ∧ ei.bytes ≤ 2 ^ 10) = true) (hs : ei.size = 1) (ho : (f y).one = true)
    (hl : Xs.length ≤ 1000000) (hk : k < c) (hK : ∀ σ', σ'[σ.length]? = some (.live e ((Xs ++ [y]).map f)) → (∀ j b, blkOf v ≠ some j → σ[j]? = some b → σ'[j]? = some b) → K (.ownu σ.length (Xs ++ [y]).length 1) σ' (k + 1)) : AppK C c k σ (t :: tx :: rest) v (.own i 0 1 1 m) K := by
  refine ⟨?_⟩
  obtain ⟨desc, sz, by', z⟩ := ti
  simp only at htd
  subst htd
  unfold pappK
  simp only [ht, htx, he, hd]
  have hxi := contOf_lt hx
  refine ⟨ty, [f y], [f y], hx, by rw [hs]; simp, by rw [hs]; rfl, ⟨by decide, by simp [pones, ho]⟩, ?_⟩
  have hnew : ∀ {σ' : List StB}, σ'.length = σ.length → (σ' ++ [StB.live e (Xs.map f ++ [f y])])[σ.length]? = some (.live e ((Xs ++ [y]).map f)) := fun {σ'} h => by rw [← h]; simp
  have hKe : ∀ σ', σ'[σ.length]? = some (.live e ((Xs ++ [y]).map f)) → (∀ j b, blkOf v ≠ some j → σ[j]? = some b → σ'[j]? = some b) → K (.ownu σ.length (Xs.length + 1) 1) σ' (k + 1) := fun σ' h1 h2 => by
    have := hK σ' h1 h2
    rw [List.length_append] at this
    exact this
  have hold : ∀ {b : StB} {j : Nat} {x : StB}, σ[j]? = some x → (σ ++ [b])[j]? = some x := fun h => by rw [List.getElem?_append_left (List.getElem?_eq_some_iff.1 h).1]; exact h
  rcases hg with ⟨rfl, rfl⟩ | ⟨j, ty2, rfl, h⟩ | ⟨j, rfl, h⟩
  · refine ⟨(fun h => by cases h), fun _ => ⟨hk, ?_⟩⟩
    rw [hs]
    exact hKe _ (hnew rfl) (fun j b _ hb => hold hb)
  · refine ⟨by omega, (fun h => by omega), fun _ => ⟨hk, ty2, Xs.map f, Xs.map f ++ [f y], h, by rw [hs]; simp, by rw [hs, List.drop_zero, List.take_of_length_le (by simp)], ?_⟩⟩
    rw [hs]
    exact hKe _ (hnew rfl) (fun j b _ hb => hold hb)
  · refine ⟨⟨by omega, hs.symm, hk⟩, Xs.map f, Xs.map f ++ [f y], h, by rw [hs]; simp, by rw [hs, List.take_of_length_le (by simp)], ?_⟩
    refine hKe _ (hnew (by simp)) (fun j' b hj hb => ?_)
    have hne : j ≠ j' := fun e => hj (by rw [← e]; rfl)
    rw [List.getElem?_append_left (by rw [List.length_set]; exact (List.getElem?_eq_some_iff.1 hb).1), List.getElem?_set_ne hne]
    exact hb
theorem appG {α : Type} {f : α → PV} {e t tx : TypeId} {rest : List TypeId} {v : PV} {Xs : List α} {y : α} {i m : Nat} {ty : TypeId} {σ : List StB} {ti xi ei : TI} (hg : Gr f e v σ Xs) (hx : contOf σ i = some (ty, [f y])) (ht : C.ty t = some ti) (htd : ti.desc = .slice e) (htx : C.ty tx = some xi) (he : C.ty e = some ei) (hd : decide (srcOk xi.desc = true ∧ ei.bytes ≤ 2 ^ 10) = true) (hs : ei.size = 1) (ho : (f y).one = true)
    (hl : Xs.length ≤ 1000000) (hk : k < c) (hK : ∀ v' σ', Gr f e v' σ' (Xs ++ [y]) → (∀ j b, blkOf v ≠ some j → σ[j]? = some b → σ'[j]? = some b) → blkOf v' = some σ.length → K v' σ' (k + 1)) : AppK C c k σ (t :: tx :: rest) v (.own i 0 1 1 m) K :=
  appGu hg hx ht htd htx he hd hs ho hl hk fun σ' h1 h2 => hK _ _ (.inr (.inr ⟨σ.length, rfl, h1⟩)) h2 rfl
section
variable {α : Type}
variable {f : α → PV} {z : PV} {n q : Nat} {L : List α} {x y : α}
end
theorem len_map_le {α : Type} {f : α → PV} {L : List α} {q : Nat} (h : q ≤ L.length) : q * 1 ≤ (L.map f).length := by rw [List.length_map]; omega
theorem fz_own {i n c e : Nat} {σ : List StB} {ty : TypeId} {cs cs' : List PV} (h : contOf σ i = some (ty, cs)) (hl : n * e ≤ cs.length) (hc : n ≤ c) (ht : cs.take (n * e) = cs') : Fz (.own i 0 n c e) σ (.lst n cs') (σ.set i (.frz ty cs)) :=
  fun K hK => ⟨ty, cs, cs', h, by omega, by simpa using ht, hK⟩
theorem part0 {σ : List StB} {K : List (Nat × PV) → List StB → Prop} (hK : K [] σ) : PartK σ [] K := ⟨hK⟩
theorem pones_pn : ∀ xs : List Int, pones (xs.map (.int .i64)) = true
  | [] => rfl
  | x :: xs => by simp only [List.map_cons, pones, pones_pn xs, Bool.and_true]; rfl
end Go.PI
/- PLAIN VALUES: temporaries of which only some are told; calls that are given the store. -/
namespace Go.PI
structure Hid (p : Prop) : Prop where
  h : p
def exL (f : Nat → PV) : Nat → Nat → List PV
  | 0, _ => []
  | n + 1, i => f i :: exL f n (i + 1)
def asg : List (Nat × PV) → (Nat → PV) → Nat → PV
  | [], J, i => J i
  | (k, v) :: l, J, i => match Nat.beq k i with
    | true => v
    | false => asg l J i
def AllG (T : List PV) : List (Nat × PV) → Prop
  | [] => True
  | (k, v) :: l => T.getD k undefP = v ∧ AllG T l
def Gt (T : List PV) (n : Nat) (l : List (Nat × PV)) : Prop := T.length = n ∧ AllG T l
theorem exL_get (f : Nat → PV) : ∀ (n i j : Nat), j < n → (exL f n i)[j]? = some (f (i + j))
  | 0, _, _, h => by omega
  | n + 1, i, 0, _ => rfl
  | n + 1, i, j + 1, h => by
    show (exL f n (i + 1))[j]? = _
    rw [exL_get f n (i + 1) j (by omega)]
    congr 2
    omega
theorem exL_len (f : Nat → PV) : ∀ (n i : Nat), (exL f n i).length = n
  | 0, _ => rfl
  | n + 1, i => by show (exL f n (i + 1)).length + 1 = _; rw [exL_len f n]
theorem asg_is {T : List PV} : ∀ {l : List (Nat × PV)}, AllG T l → ∀ i, asg l (fun i => T.getD i undefP) i = T.getD i undefP
  | [], _, i => rfl
  | (k, v) :: l, h, i => by
    show (match Nat.beq k i with | true => v | false => asg l _ i) = _
    split
    · rename_i hk
      have := Nat.eq_of_beq_eq_true hk
      subst this
      exact h.1.symm
    · exact asg_is h.2 i
theorem gt_open {T : List PV} {n : Nat} {l : List (Nat × PV)} (h : Gt T n l) : ∃ J, T = exL (asg l J) n 0 := by
  refine ⟨fun i => T.getD i undefP, List.ext_getElem? fun i => ?_⟩
  by_cases hi : i < n
  · rw [exL_get _ _ _ _ hi, asg_is h.2, Nat.zero_add]
    have : i < T.length := by rw [h.1]; exact hi
    simp [List.getD, this]
  · rw [List.getElem?_eq_none (by rw [h.1]; omega), List.getElem?_eq_none (by rw [exL_len]; omega)]
variable {C : Ctx} {c k d : Nat} {σ σ1 : List StB} {g : FuncId} {K : PV → List StB → Nat → Prop}
theorem callm {ps : List PV} {Q : PV → List StB → Prop} (h : Cm C g ps σ d Q) (hk : k + d ≤ c) (hK : ∀ r σ', Q r σ' → K r σ' (k + d)) : ArgK false C c k σ g ps K :=
  ⟨.inr (.inr ⟨rfl, [], .inr ⟨[], by cases ps <;> exact ⟨d, Q, hk, h, hK⟩⟩⟩)⟩
theorem endm (ms : List Bool) {m : Nat} {vs : List PV} {Q : PV → List StB → Prop} (hk : k ≤ m) (h : frzmK σ ms vs fun vs' σ2 => Q (oneP vs') σ2) : EndMK σ k m vs Q := ⟨⟨[], hk, ms, h⟩⟩
section
variable {σ2 σ3 σ4 : List StB}
end
section
theorem load_k {C : Ctx} {σ : List StB} {j o q : Nat} {t t' : TypeId} {i : TI} {cs : List PV} {v : PV} (hi : C.ty t = some i) (hd : (match i.desc with | .struct _ | .array _ _ => false | _ => true) = true) (hc : contOf σ j = some (t', cs)) (hv : cs[q]? = some v) (ho : o = q) : ploadE C σ t (.optr j o) = some v := by
  subst ho
  unfold ploadE
  rw [hi]
  simp only [hc]
  unfold partP
  split
  · rename_i h; rw [h] at hd; cases hd
  · rename_i h; rw [h] at hd; cases hd
  · exact hv
end
end Go.PI
/- PLAIN VALUES: small facts of stores and lists. -/
namespace Go.PI
open IM
set_option maxRecDepth 10000
set_option maxHeartbeats 1000000
theorem push_get {σ0 : List StB} {b : StB} : (σ0 ++ [b])[σ0.length]? = some b := by simp
theorem push_set {σ0 : List StB} {b b' : StB} : (σ0 ++ [b]).set σ0.length b' = σ0 ++ [b'] := by simp
theorem push_cont {σ0 : List StB} {t : TypeId} {cs : List PV} : contOf (σ0 ++ [.live t cs]) σ0.length = some (t, cs) := by unfold contOf; rw [push_get]; rfl
theorem push_old {σ0 : List StB} {b : StB} {j : Nat} {x : StB} (h : σ0[j]? = some x) : (σ0 ++ [b])[j]? = some x := by
  rw [List.getElem?_append_left (List.getElem?_eq_some_iff.1 h).1]; exact h
theorem spl_one {cs : List PV} {i : Nat} {y : PV} (h : i < cs.length) : pspl cs i [y] = cs.set i y := by
  unfold pspl
  rw [List.set_eq_take_append_cons_drop, if_pos h]
  simp
theorem spl_at {cs : List PV} {i o : Nat} {y : PV} (ho : o = i) (h : i < cs.length) : pspl cs o [y] = cs.set i y := by rw [ho]; exact spl_one h
theorem load_liv {C : Ctx} {σ : List StB} {j o : Nat} {t t' : TypeId} {i : TI} {cs : List PV} {v : PV} (hj : σ[j]? = some (.liv t cs)) (hi : C.ty t' = some i) (hv : partP i cs o = some v) : ploadE C σ t' (.optr j o) = some v := by
  have h1 : contOf σ j = none := by unfold contOf; rw [hj]; rfl
  unfold ploadE
  rw [hi]
  simp only [h1, livOf_of hj]
  exact hv
theorem partc {σ : List StB} : ∀ {l : List (Nat × PV)} {K : List (Nat × PV) → List StB → Prop}, (l.all fun p => cloA p.2) = true → K l σ → PartK σ l K
  | [], _, _, h => ⟨h⟩
  | (i, p) :: l, K, hc, h => by
    simp only [List.all_cons, Bool.and_eq_true] at hc
    exact ⟨frzAK_clo hc.1 (partc (K := fun ps' σ'' => K ((i, p) :: ps') σ'') hc.2 h).out⟩
theorem Cm.ct {C : Ctx} {g : FuncId} {ps : List PV} {d : Nat} {Q : PV → List StB → Prop} {Q' : PV → Prop} (h : Cm C g ps [] d Q) (hq : ∀ r σ', Q r σ' → frzAK σ' r fun p _ => Q' p) : Ct C g ps d Q' := by
  intro H W avs hw hr hn
  have I : Sto H W d [] 0 W [] H := ⟨hn, Nat.zero_le _, Nat.le_refl _, Nat.le_refl _, fun _ _ => rfl, hw, fun _ h => h, fun _ h => .inl h, rfl, fun i b h => by simp at h, fun i t l b h => by simp at h, fun i t l b h => by simp at h, fun i j b h => by simp at h, fun i t l b h => by simp at h, fun i t l b h => by simp at h, fun i l b h => by simp at h⟩
  refine (h H W d 0 W [] H avs I (by omega) (RelVs.clo hr)).mono ?_
  rintro v H' ⟨r, σ', k', W', β', E, I', hv, hQ, hk⟩
  obtain ⟨p, σ2, W2, f, r2, hp⟩ := frzAK_ok (hq r σ' hQ) I' hv
  exact ⟨p, hp, r2.mono (fun _ _ _ => rfl) (fun A _ h => f.2.1.w0 A h), I'.lo, by have := I'.hi; omega, I'.keep⟩
def Wrt (σ σ' : List StB) (r : PV) (xs : List Int) : Prop :=
  ∃ j, (r = .own j 0 xs.length xs.length 1 ∨ r = .ownu j xs.length 1) ∧ σ'[j]? = some (.live 3 (xs.map pn)) ∧ σ.length ≤ j ∧ ∀ (i : Nat) (b : StB), σ[i]? = some b → σ'[i]? = some b
theorem Wrt.fz {σ σ' : List StB} {r : PV} {xs : List Int} (h : Wrt σ σ' r xs) : frzAK σ' r fun p _ => p = pIs xs := by
  obtain ⟨j, rfl | rfl, h1, -, -⟩ := h
  · exact ⟨3, _, _, contOf_live h1, ⟨by simp, Nat.le_refl _⟩, rfl, by show PV.lst _ _ = _; rw [List.drop_zero, List.take_of_length_le (by simp)]; rfl⟩
  · exact ⟨3, _, _, contOf_live h1, ⟨by simp, fun _ => rfl⟩, rfl, by show PV.lst _ _ = _; rw [List.take_of_length_le (by simp)]; rfl⟩
end Go.PI
/- PERMUTATIONS OF 0 TO n - 1: iterates, cycles, what a list of integers has to be for it. -/
namespace Go.PI
theorem len_le_of {α : Type} [DecidableEq α] : ∀ {l m : List α}, l.Nodup → (∀ x ∈ l, x ∈ m) → l.length ≤ m.length
  | [], m, _, _ => Nat.zero_le _
  | a :: l, m, hl, h => by
    have ha : a ∈ m := h a (by simp)
    have hn := List.nodup_cons.1 hl
    have := len_le_of (m := m.erase a) hn.2 fun x hx => (List.mem_erase_of_ne (fun e => hn.1 (by rw [← e]; exact hx))).2 (h x (by simp [hx]))
    rw [List.length_erase_of_mem ha] at this
    have hp := List.length_pos_of_mem ha
    simp only [List.length_cons]
    omega
theorem ex_least {P : Nat → Prop} (h : ∃ n, P n) : ∃ n, P n ∧ ∀ m, m < n → ¬ P m := by
  obtain ⟨n, hn⟩ := h
  induction n using Nat.strongRecOn with
  | ind n ih =>
    by_cases h : ∃ m, m < n ∧ P m
    · obtain ⟨m, h1, h2⟩ := h; exact ih m h1 h2
    · exact ⟨n, hn, fun m hm hp => h ⟨m, hm, hp⟩⟩
def PL (n : Nat) (f : Nat → Nat) : List Int := (List.range n).map fun i => (f i : Int)
structure IsP (n : Nat) (f g : Nat → Nat) : Prop where
  lt : ∀ i, i < n → f i < n
  glt : ∀ i, i < n → g i < n
  gf : ∀ i, i < n → g (f i) = i
  fg : ∀ i, i < n → f (g i) = i
theorem IsP.inv {n : Nat} {f g : Nat → Nat} (h : IsP n f g) : IsP n g f := ⟨h.glt, h.lt, h.fg, h.gf⟩
theorem IsP.comp {n : Nat} {f g f' g' : Nat → Nat} (h : IsP n f g) (k : IsP n f' g') : IsP n (fun i => f' (f i)) (fun i => g (g' i)) :=
  ⟨fun i hi => k.lt _ (h.lt i hi), fun i hi => h.glt _ (k.glt i hi), fun i hi => by show g (g' (f' (f i))) = i; rw [k.gf _ (h.lt i hi), h.gf i hi], fun i hi => by show f' (f (g (g' i))) = i; rw [h.fg _ (k.glt i hi), k.fg i hi]⟩
theorem IsP.inj {n : Nat} {f g : Nat → Nat} (h : IsP n f g) {i j : Nat} (hi : i < n) (hj : j < n) (e : f i = f j) : i = j := by rw [← h.gf i hi, e, h.gf j hj]
theorem PL_len {n : Nat} {f : Nat → Nat} : (PL n f).length = n := by simp [PL]
theorem PL_get {n : Nat} {f : Nat → Nat} {i : Nat} (h : i < n) : (PL n f)[i]? = some (f i : Int) := by simp [PL, h]
theorem PL_eq {n : Nat} {f f' : Nat → Nat} (h : ∀ i, i < n → f i = f' i) : PL n f = PL n f' := by
  unfold PL
  refine List.map_congr_left fun i hi => ?_
  rw [h i (List.mem_range.1 hi)]
theorem PL_ext {n : Nat} {f : Nat → Nat} {xs : List Int} (hl : xs.length = n) (h : ∀ i, i < n → xs[i]? = some (f i : Int)) : xs = PL n f := by
  refine List.ext_getElem? fun i => ?_
  by_cases hi : i < n
  · rw [h i hi, PL_get hi]
  · rw [List.getElem?_eq_none (by omega), List.getElem?_eq_none (by rw [PL_len]; omega)]
def InR (xs : List Int) : Prop := ∀ x ∈ xs, 0 ≤ x ∧ x < xs.length
open Classical in
noncomputable def chkP (xs : List Int) : Int := if InR xs then if xs.Nodup then 0 else 3 else 2
theorem surj_of {xs : List Int} (h1 : InR xs) (h2 : xs.Nodup) {i : Nat} (hi : i < xs.length) : (i : Int) ∈ xs := by
  by_cases h : (i : Int) ∈ xs
  · exact h
  · exfalso
    have := len_le_of (l := (i : Int) :: xs) (m := List.map (fun k : Nat => (k : Int)) (List.range xs.length)) (List.nodup_cons.2 ⟨h, h2⟩) fun x hx => by
      rcases List.mem_cons.1 hx with rfl | hx
      · exact List.mem_map.2 ⟨i, List.mem_range.2 hi, rfl⟩
      · obtain ⟨a, b⟩ := h1 x hx
        exact List.mem_map.2 ⟨x.toNat, List.mem_range.2 (by omega), by omega⟩
    simp only [List.length_cons, List.length_map, List.length_range] at this
    omega
theorem perm_of {xs : List Int} (h1 : InR xs) (h2 : xs.Nodup) : ∃ f g, xs = PL xs.length f ∧ IsP xs.length f g := by
  have hget : ∀ i, i < xs.length → xs[i]? = some (((xs.getD i 0).toNat : Nat) : Int) := fun i hi => by
    have e := List.getElem?_eq_getElem hi
    have := h1 _ (List.getElem_mem hi)
    rw [List.getD_eq_getElem?_getD, e]
    simp only [Option.getD_some]
    congr 1
    omega
  have hin : ∀ i, i < xs.length → (xs.getD i 0).toNat < xs.length := fun i hi => by
    have := h1 _ (List.mem_of_getElem? (hget i hi))
    omega
  have hidx : ∀ i, i < xs.length → xs.idxOf (i : Int) < xs.length := fun i hi => List.idxOf_lt_length_of_mem (surj_of h1 h2 hi)
  have hat : ∀ i, i < xs.length → xs[xs.idxOf (i : Int)]? = some (i : Int) := fun i hi => by
    rw [List.getElem?_eq_getElem (hidx i hi), List.getElem_idxOf]
  refine ⟨fun i => (xs.getD i 0).toNat, fun i => xs.idxOf (i : Int), PL_ext rfl hget, hin, hidx, fun i hi => ?_, fun i hi => ?_⟩
  · have a := hat _ (hin i hi)
    rw [← hget i hi] at a
    exact (List.getElem?_inj (hidx _ (hin i hi)) h2).1 a
  · have a := hget _ (hidx i hi)
    rw [hat i hi] at a
    simp only [Option.some.injEq] at a
    omega
theorem inR_PL {n : Nat} {f g : Nat → Nat} (h : IsP n f g) : InR (PL n f) := fun x hx => by
  rw [PL_len]
  obtain ⟨i, hi, rfl⟩ := List.mem_map.1 hx
  have := h.lt i (List.mem_range.1 hi)
  omega
theorem chk2 {xs : List Int} (h : ¬ InR xs) : chkP xs = 2 := by unfold chkP; rw [if_neg h]
theorem chk3 {xs : List Int} (h : InR xs) (h2 : ¬ xs.Nodup) : chkP xs = 3 := by unfold chkP; rw [if_pos h, if_neg h2]
theorem chk0 {xs : List Int} (h : InR xs) (h2 : xs.Nodup) : chkP xs = 0 := by unfold chkP; rw [if_pos h, if_pos h2]
theorem chkP_cases (xs : List Int) : (chkP xs = 0 ∧ InR xs ∧ xs.Nodup) ∨ chkP xs = 3 ∨ chkP xs = 2 := by
  by_cases h : InR xs
  · by_cases h2 : xs.Nodup
    · exact .inl ⟨chk0 h h2, h, h2⟩
    · exact .inr (.inl (chk3 h h2))
  · exact .inr (.inr (chk2 h))
def it (f : Nat → Nat) : Nat → Nat → Nat
  | 0, x => x
  | k + 1, x => f (it f k x)
section
variable {n : Nat} {f g : Nat → Nat} {x y : Nat}
theorem it_add (f : Nat → Nat) (a b x : Nat) : it f (a + b) x = it f a (it f b x) := by
  induction a with
  | zero => simp [it]
  | succ a ih => rw [show a + 1 + b = a + b + 1 by omega]; simp only [it]; rw [ih]
theorem it_succ' (f : Nat → Nat) (k x : Nat) : it f (k + 1) x = it f k (f x) := it_add f k 1 x
theorem it_lt (h : IsP n f g) (hx : x < n) (k : Nat) : it f k x < n := by
  induction k with
  | zero => exact hx
  | succ k ih => exact h.lt _ ih
theorem it_inj (h : IsP n f g) (hx : x < n) (hy : y < n) : ∀ {k : Nat}, it f k x = it f k y → x = y
  | 0, e => e
  | k + 1, e => it_inj h hx hy (h.inj (it_lt h hx k) (it_lt h hy k) e)
theorem it_mul {m : Nat} (h : it f m x = x) (q : Nat) : it f (m * q) x = x := by
  induction q with
  | zero => rfl
  | succ q ih => rw [Nat.mul_succ, it_add, h, ih]
theorem returns (h : IsP n f g) (hx : x < n) : ∃ m, 0 < m ∧ m ≤ n ∧ it f m x = x := by
  by_cases hc : ∃ a b, a < b ∧ b ≤ n ∧ it f a x = it f b x
  · obtain ⟨a, b, h1, h2, h3⟩ := hc
    refine ⟨b - a, by omega, by omega, ?_⟩
    have e : it f b x = it f a (it f (b - a) x) := by rw [← it_add]; congr 1; omega
    rw [e] at h3
    exact (it_inj h hx (it_lt h hx _) h3).symm
  · exfalso
    have hd : ((List.range (n + 1)).map fun k => it f k x).Nodup := by
      unfold List.Nodup
      rw [List.pairwise_map]
      exact List.pairwise_lt_range.imp_of_mem fun {a b} _ hb hab e => hc ⟨a, b, hab, by have := List.mem_range.1 hb; omega, e⟩
    have := len_le_of hd (m := List.range n) fun y hy => by
      obtain ⟨k, -, rfl⟩ := List.mem_map.1 hy
      exact List.mem_range.2 (it_lt h hx k)
    simp only [List.length_map, List.length_range] at this
    omega
open Classical in
/-- the length of a cycle -/
noncomputable def ordr (f : Nat → Nat) (x : Nat) : Nat := if h : ∃ m, 0 < m ∧ it f m x = x then (ex_least h).choose else 0
theorem ordr_spec (h : IsP n f g) (hx : x < n) : 0 < ordr f x ∧ it f (ordr f x) x = x ∧ ordr f x ≤ n ∧ ∀ m, 0 < m → m < ordr f x → it f m x ≠ x := by
  obtain ⟨m, h1, h2, h3⟩ := returns h hx
  have he : ∃ m, 0 < m ∧ it f m x = x := ⟨m, h1, h3⟩
  have hs := (ex_least he).choose_spec
  have e : ordr f x = (ex_least he).choose := by unfold ordr; rw [dif_pos he]
  rw [← e] at hs
  refine ⟨hs.1.1, hs.1.2, ?_, fun m a b c => hs.2 m b ⟨a, c⟩⟩
  refine Nat.le_trans (Nat.le_of_not_lt fun hlt => ?_) h2
  exact hs.2 m hlt ⟨h1, h3⟩
def InC (f : Nat → Nat) (x y : Nat) : Prop := ∃ k, it f k x = y
theorem InC.refl (f : Nat → Nat) (x : Nat) : InC f x x := ⟨0, rfl⟩
theorem InC.trans {z : Nat} (a : InC f x y) (b : InC f y z) : InC f x z := by
  obtain ⟨k, rfl⟩ := a
  obtain ⟨m, rfl⟩ := b
  exact ⟨m + k, it_add f m k x⟩
theorem InC.symm (h : IsP n f g) (hx : x < n) (a : InC f x y) : InC f y x := by
  obtain ⟨k, rfl⟩ := a
  obtain ⟨h1, h2, -⟩ := ordr_spec h hx
  refine ⟨ordr f x * k - k, ?_⟩
  have : k ≤ ordr f x * k := Nat.le_mul_of_pos_left k h1
  rw [← it_add, show ordr f x * k - k + k = ordr f x * k by omega, it_mul h2]
noncomputable def cyc (f : Nat → Nat) (x : Nat) : List Int := (List.range (ordr f x)).map fun k => ((it f k x : Nat) : Int)
theorem cyc_len : (cyc f x).length = ordr f x := by simp [cyc]
theorem mem_cyc (h : IsP n f g) (hx : x < n) {v : Int} : v ∈ cyc f x ↔ ∃ y : Nat, v = y ∧ InC f x y := by
  constructor
  · intro hv
    obtain ⟨k, -, rfl⟩ := List.mem_map.1 hv
    exact ⟨_, rfl, k, rfl⟩
  · rintro ⟨y, rfl, k, rfl⟩
    obtain ⟨h1, h2, -⟩ := ordr_spec h hx
    refine List.mem_map.2 ⟨k % ordr f x, List.mem_range.2 (Nat.mod_lt _ h1), ?_⟩
    have : it f k x = it f (k % ordr f x) x := by
      conv => lhs; rw [← Nat.mod_add_div k (ordr f x)]
      rw [it_add, it_mul h2]
    rw [this]
def lead (f : Nat → Nat) (x : Nat) : Prop := ∀ y, InC f x y → x ≤ y
open Classical in
/-- the cycles -/
noncomputable def cycs (n : Nat) (f : Nat → Nat) : List (List Int) := ((List.range n).filter fun x => decide (lead f x)).map fun x => cyc f x
open Classical in
theorem cycs_step {i : Nat} : cycs (i + 1) f = if lead f i then cycs i f ++ [cyc f i] else cycs i f := by
  unfold cycs
  rw [List.range_succ, List.filter_append]
  by_cases h : lead f i
  · simp [h]
  · simp [h]
end
end Go.PI
/- FROM THE INTERPRETER's WORD TO A ROW. -/
namespace Go.PI
open Go.ChangeShapes Go.WideShapes Go.ChangeAt Go.RowKit
theorem post_of_below {H : Type} {enc : TypeId × Value → H} {P : Program} {f : Func} {s : ChangeSpec} {apart fresh handsOn again : Bool} {W W' : World} {args : Array Value} {v : Value} {ds gs : List (DataW H)} {before pa pv : List MemPlace}
    (hW : DataW.Whole enc P f.params.toList s.vars apart W args.toList ds gs before)
    (hres : ∀ (b : Nat) (sp : Nat → Bool) (hd : Bool), DataW.TrodAll enc P W' b sp hd f.resultTypes.toList (v.resultList f.resultTypes.size) (s.fn H (ds ++ gs)).results [])
    (hargs : ∀ sp : Nat → Bool, (∀ p ∈ before, sp p.block = true) → DataW.TrodAll enc P W' 0 sp true f.params.toList args.toList (s.fn H (ds ++ gs)).args pa)
    (hvars : ∀ sp : Nat → Bool, (∀ p ∈ before, sp p.block = true) → DataW.TrodVars enc P W' sp s.vars (s.fn H (ds ++ gs)).vars pv)
    (hps : before = pa ++ pv) (hB : Below W.heap.size W W')
    (hok : ∀ (j : Nat) (t : TypeId) (r : Value), f.resultTypes[j]? = some t → (v.resultList f.resultTypes.size)[j]? = some r → Value.okWide P W' .any 0 t r) :
    s.post enc P f apart fresh handsOn again W args v W' := by
  have hold : ∀ p ∈ before, (fun b => decide (b < W.heap.size)) p.block = true := fun p hp => by simpa using hW.lt p hp
  have hlt := fun p hp => hW.lt p hp
  refine ⟨ds, gs, before, [], pa, pv, hW, hres _ _ _, hargs _ hold, hvars _ hold, World.keptBut_mono (fun p hp => ⟨hp, ?_⟩) (hB.frame (· ∈ before)), fun _ => ?_⟩
  · rw [hps, List.mem_append] at hp
    exact Or.inr hp
  · obtain ⟨_, _, _, _, _, hz, hn⟩ := hW
    refine ⟨hok, _, _, ([] ++ pa) ++ pv, ⟨[] ++ pa, pv, trodAll_append (hargs _ (fun _ _ => rfl)) (hres _ _ _), hvars _ (fun _ _ => rfl), rfl, ?_, ?_⟩, ?_⟩
    · intro b off hp
      have hp2 := hz b off (by rw [hps]; simpa using hp)
      have hp3 := hlt _ (by rw [hps]; simpa using hp)
      rw [hB.frozen (p := ⟨b, off, none⟩) hp3]
      exact hp2
    · intro ha
      have := hn ha
      rw [hps] at this
      simpa using this
    · intro p hp _
      rw [hps]
      simpa using hp
end Go.PI
/- ARGUMENTS: slices of integers that came in, as blocks that are only read. -/
namespace Go.PI
open Go.ChangeShapes Go.WideShapes Go.ChangeAt Go.RowKit
def NoOwn (H : Heap) : Prop := ∀ A, (H.get A).own = false
structure Imp (W : World) (μ : M) (H : Heap) : Prop where
  hr : HR μ H W
  no : NoOwn H
theorem below_of {μ : M} {H H' : Heap} {w w' : World} {v : AV} {u : Value} (hno : NoOwn H) (h : EffR μ H w v H' u w') : Below w.heap.size w w' := by
  obtain ⟨μ', -, -, hf⟩ := h
  refine ⟨hf.os, hf.tape, hf.output, hf.size, fun k hk => (hf.keep k hk ?_).1⟩
  rintro ⟨A, a, ho, -⟩
  rw [hno A] at ho
  cases ho
theorem imp0 (W : World) : Imp W (fun _ => none) ⟨0, .nil⟩ :=
  ⟨⟨by simp [PI.lim], fun _ _ => rfl, fun A bi hl hm => (by cases hm), fun A B a b _ _ _ hm => (by cases hm)⟩, fun A => by unfold Heap.get; simp [Blk.own]⟩
theorem Imp.push {W : World} {μ : M} {H : Heap} (h : Imp W μ H) (hn : H.n < lim) {bi : BI} {b : Blk} (ho : b.own = false) (hb : b.live = true → bi.c < W.heap.size ∧ BlkR (μ.set H.n bi) W bi b) :
    Imp W (μ.set H.n bi) (H.push b) ∧ M.le μ (μ.set H.n bi) := by
  have hle : M.le μ (μ.set H.n bi) := M.le_set (h.hr.dom _ (Nat.le_refl _))
  have hp := Heap.get_push (H := H) (b := b) hn
  refine ⟨⟨⟨?_, ?_, ?_, ?_⟩, ?_⟩, hle⟩
  · show H.n + 1 ≤ lim
    omega
  · intro A hA
    have hA : H.n + 1 ≤ A := hA
    unfold M.set
    rw [if_neg (by omega)]
    exact h.hr.dom A (by omega)
  · intro A bj hl hm
    rw [hp] at hl ⊢
    by_cases hA : A = H.n
    · subst hA
      rw [if_pos rfl] at hl ⊢
      rw [M.set_self] at hm
      cases hm
      exact hb hl
    · rw [if_neg hA] at hl ⊢
      unfold M.set at hm
      rw [if_neg hA] at hm
      obtain ⟨h1, h2⟩ := h.hr.blk A bj hl hm
      exact ⟨h1, h2.mono hle rfl⟩
  · intro A B a b' hAB hA
    rw [hp] at hA
    by_cases hA' : A = H.n
    · rw [if_pos hA', ho] at hA; cases hA
    · rw [if_neg hA', h.no A] at hA; cases hA
  · intro A
    rw [hp]
    by_cases hA : A = H.n
    · rw [if_pos hA]; exact ho
    · rw [if_neg hA]; exact h.no A
def slen : AV → Option Nat
  | .nils | .sle => some 0
  | .sl _ _ n _ | .slu _ _ n _ => some n
  | _ => none
def Seen (H : Heap) (v : AV) (xs : List Int) : Prop := slen v = some xs.length ∧ (xs.length ≤ 1000 → Sl H v xs)
theorem Seen.mono {H H' : Heap} {v : AV} {xs : List Int} (h : Seen H v xs) (k : ∀ A, A < H.n → H'.get A = H.get A) : Seen H' v xs := ⟨h.1, fun hl => (h.2 hl).mono k⟩
theorem cell_zero {W : World} {a : Addr} {v : Value} (h : W.cell? (a.add 0) = some v) : a = ⟨a.block, a.off, none⟩ := by
  obtain ⟨b, o, s⟩ := a
  cases s with
  | none => rfl
  | some s =>
    unfold World.cell? at h
    simp only [Addr.add, if_true] at h
    split at h
    · simp at h
    · cases h
theorem cell_row {W : World} {b o i : Nat} {v : Value} (h : W.cell? (Addr.add ⟨b, o, none⟩ i) = some v) : ∃ carr ty fz, W.heap[b]? = some (.cells carr ty fz) ∧ carr[o + i]? = some v := by
  have e : Addr.add ⟨b, o, none⟩ i = ⟨b, o + i, none⟩ := by
    unfold Addr.add
    split
    · rename_i h0; subst h0; rfl
    · rfl
  rw [e] at h
  unfold World.cell? at h
  split at h
  · rename_i carr ty fz hc
    exact ⟨carr, ty, fz, hc, by simpa using h⟩
  · cases h
end Go.PI
