/- Own work of the verifier: PvGt PvGen HoOld. -/
import Derived.Test.YtfebkjgioddgaaaHpAU
import Derived.Test.YtfebkjgioddgaaaHpAG
import Derived.Test.YtfebkjgioddgaaaHpAL
set_option linter.all false
set_option exponentiation.threshold 3000
set_option linter.deprecated false
/- PLAIN VALUES: temporaries of which only some are told; calls that are given the store. -/
namespace Go.PI
/-- a fact that is not looked at until it is asked for -/
structure Hid (p : Prop) : Prop where
  h : p
def exL (f : Nat → PV) : Nat → Nat → List PV
  | 0, _ => []
  | n + 1, i => f i :: exL f n (i + 1)
def asg : List (Nat × PV) → (Nat → PV) → Nat → PV
  | [], J, i => J i
  | (k, v) :: l, J, i => match Nat.beq k i with
    | true => v
    | false => asg l J i
def AllG (T : List PV) : List (Nat × PV) → Prop
  | [] => True
  | (k, v) :: l => T.getD k undefP = v ∧ AllG T l
/-- n temporaries, of which those in l are told -/
def Gt (T : List PV) (n : Nat) (l : List (Nat × PV)) : Prop := T.length = n ∧ AllG T l
theorem exL_get (f : Nat → PV) : ∀ (n i j : Nat), j < n → (exL f n i)[j]? = some (f (i + j))
  | 0, _, _, h => by omega
  | n + 1, i, 0, _ => rfl
  | n + 1, i, j + 1, h => by
    show (exL f n (i + 1))[j]? = _
    rw [exL_get f n (i + 1) j (by omega)]
    congr 2
    omega
theorem exL_len (f : Nat → PV) : ∀ (n i : Nat), (exL f n i).length = n
  | 0, _ => rfl
  | n + 1, i => by show (exL f n (i + 1)).length + 1 = _; rw [exL_len f n]
theorem asg_is {T : List PV} : ∀ {l : List (Nat × PV)}, AllG T l → ∀ i, asg l (fun i => T.getD i undefP) i = T.getD i undefP
  | [], _, i => rfl
  | (k, v) :: l, h, i => by
    show (match Nat.beq k i with | true => v | false => asg l _ i) = _
    split
    · rename_i hk
      have := Nat.eq_of_beq_eq_true hk
      subst this
      exact h.1.symm
    · exact asg_is h.2 i
theorem gt_open {T : List PV} {n : Nat} {l : List (Nat × PV)} (h : Gt T n l) : ∃ J, T = exL (asg l J) n 0 := by
  refine ⟨fun i => T.getD i undefP, List.ext_getElem? fun i => ?_⟩
  by_cases hi : i < n
  · rw [exL_get _ _ _ _ hi, asg_is h.2, Nat.zero_add]
    have : i < T.length := by rw [h.1]; exact hi
    simp [List.getD, this]
  · rw [List.getElem?_eq_none (by rw [h.1]; omega), List.getElem?_eq_none (by rw [exL_len]; omega)]
variable {C : Ctx} {c k d : Nat} {σ σ1 : List StB} {g : FuncId} {K : PV → List StB → Nat → Prop}
/-- a call that is given the store -/
theorem callm {ps : List PV} {Q : PV → List StB → Prop} (h : Cm C g ps σ d Q) (hk : k + d ≤ c) (hK : ∀ r σ', Q r σ' → K r σ' (k + d)) : ArgK false C c k σ g ps K :=
  ⟨.inr (.inr ⟨rfl, [], .inr ⟨[], by cases ps <;> exact ⟨d, Q, hk, h, hK⟩⟩⟩)⟩
/-- the same; the arguments that are marked are written no more -/
theorem callms (ms : List Bool) {ps : List PV} (h : frzmK σ ms ps fun ps' σ2 => ∃ d Q, k + d ≤ c ∧ Cm C g ps' σ2 d Q ∧ ∀ r σ', Q r σ' → K r σ' (k + d)) : ArgK false C c k σ g ps K :=
  ⟨.inr (.inr ⟨rfl, [], .inr ⟨ms, h⟩⟩)⟩
theorem endm (ms : List Bool) {m : Nat} {vs : List PV} {Q : PV → List StB → Prop} (hk : k ≤ m) (h : frzmK σ ms vs fun vs' σ2 => Q (oneP vs') σ2) : EndMK σ k m vs Q := ⟨⟨[], hk, ms, h⟩⟩
section
variable {σ2 σ3 σ4 : List StB}
theorem part3 {σ σ1 σ2 σ3 : List StB} {u v w p q r : PV} {i j l : Nat} {K : List (Nat × PV) → List StB → Prop} (h1 : Fz u σ p σ1) (h2 : Fz v σ1 q σ2) (h3 : Fz w σ2 r σ3) (hK : K [(i, p), (j, q), (l, r)] σ3) : PartK σ [(i, u), (j, v), (l, w)] K := ⟨h1 _ (h2 _ (h3 _ hK))⟩
end
section
theorem part4 {σ σ1 σ2 σ3 σ4 : List StB} {u v w x p q r t : PV} {i j l m : Nat} {K : List (Nat × PV) → List StB → Prop} (h1 : Fz u σ p σ1) (h2 : Fz v σ1 q σ2) (h3 : Fz w σ2 r σ3) (h4 : Fz x σ3 t σ4) (hK : K [(i, p), (j, q), (l, r), (m, t)] σ4) : PartK σ [(i, u), (j, v), (l, w), (m, x)] K := ⟨h1 _ (h2 _ (h3 _ (h4 _ hK)))⟩
theorem load_k {C : Ctx} {σ : List StB} {j o q : Nat} {t t' : TypeId} {i : TI} {cs : List PV} {v : PV} (hi : C.ty t = some i) (hd : (match i.desc with | .struct _ | .array _ _ => false | _ => true) = true) (hc : contOf σ j = some (t', cs)) (hv : cs[q]? = some v) (ho : o = q) : ploadE C σ t (.optr j o) = some v := by
  subst ho
  unfold ploadE
  rw [hi]
  simp only [hc]
  unfold partP
  split
  · rename_i h; rw [h] at hd; cases hd
  · rename_i h; rw [h] at hd; cases hd
  · exact hv
end
end Go.PI
/- PLAIN VALUES: small facts of stores and lists. -/
namespace Go.PI
open IM
set_option maxRecDepth 10000
set_option maxHeartbeats 1000000
theorem getD_of {p : List Int} {i : Nat} {x : Int} (h : p[i]? = some x) : p.getD i 0 = x := by rw [List.getD_eq_getElem?_getD, h]; rfl
theorem push_get {σ0 : List StB} {b : StB} : (σ0 ++ [b])[σ0.length]? = some b := by simp
theorem push_at {σ0 : List StB} {b : StB} {n : Nat} (h : n = σ0.length) : (σ0 ++ [b])[n]? = some b := by subst h; simp
theorem push_set {σ0 : List StB} {b b' : StB} : (σ0 ++ [b]).set σ0.length b' = σ0 ++ [b'] := by simp
theorem push_cont {σ0 : List StB} {t : TypeId} {cs : List PV} : contOf (σ0 ++ [.live t cs]) σ0.length = some (t, cs) := by unfold contOf; rw [push_get]; rfl
theorem push_old {σ0 : List StB} {b : StB} {j : Nat} {x : StB} (h : σ0[j]? = some x) : (σ0 ++ [b])[j]? = some x := by
  rw [List.getElem?_append_left (List.getElem?_eq_some_iff.1 h).1]; exact h
theorem cont_live {σ : List StB} {j : Nat} {t : TypeId} {cs : List PV} (h : σ[j]? = some (.live t cs)) : contOf σ j = some (t, cs) := by unfold contOf; rw [h]; rfl
theorem get_at {p : List Int} {i : Nat} (h : i < p.length) : p[i]? = some (p.getD i 0) := by rw [List.getD_eq_getElem?_getD, List.getElem?_eq_getElem h]; rfl
theorem spl_one {cs : List PV} {i : Nat} {y : PV} (h : i < cs.length) : pspl cs i [y] = cs.set i y := by
  unfold pspl
  rw [List.set_eq_take_append_cons_drop, if_pos h]
  simp
theorem mid_get {σ0 : List StB} {b b' b'' : StB} {j : Nat} {x : StB} (h : σ0[j]? = some x) : ((σ0 ++ [b]).set σ0.length b' ++ [b''])[j]? = some x := by
  have hj := (List.getElem?_eq_some_iff.1 h).1
  rw [List.getElem?_append_left (by simp; omega), List.getElem?_set_ne (by omega), List.getElem?_append_left hj]
  exact h
theorem mid_cont {σ0 : List StB} {b b' b'' : StB} {j : Nat} {x : TypeId × List PV} (h : contOf σ0 j = some x) : contOf ((σ0 ++ [b]).set σ0.length b' ++ [b'']) j = some x := by
  unfold contOf at h ⊢
  cases hj : σ0[j]? with
  | none => rw [hj] at h; cases h
  | some y =>
    rw [hj] at h
    rw [mid_get hj]
    exact h
theorem old_cont {σ0 : List StB} {b : StB} {j : Nat} {x : TypeId × List PV} (h : contOf σ0 j = some x) : contOf (σ0 ++ [b]) j = some x := by
  unfold contOf at h ⊢
  cases hj : σ0[j]? with
  | none => rw [hj] at h; cases h
  | some y =>
    rw [hj] at h
    rw [push_old hj]
    exact h
theorem spl_at {cs : List PV} {i o : Nat} {y : PV} (ho : o = i) (h : i < cs.length) : pspl cs o [y] = cs.set i y := by rw [ho]; exact spl_one h
theorem rep_flat (n : Nat) : (List.replicate n [pn 0]).flatten = (List.replicate n (0 : Int)).map pn := by
  rw [List.flatten_replicate_singleton, List.map_replicate]
theorem keep0 {τ : List StB} {b b' x : StB} (h : τ[0]? = some x) : ((τ ++ [b]).set τ.length b')[0]? = some x := by
  have hl := (List.getElem?_eq_some_iff.1 h).1
  rw [List.getElem?_set_ne (by omega), List.getElem?_append_left hl]
  exact h
theorem put_mid (P Q : List Int) (x y : Int) : pspl ((P ++ [x] ++ Q).map pn) P.length [pn y] = (P ++ y :: Q).map pn := by
  unfold pspl
  simp only [List.map_append, List.append_assoc]
  rw [List.take_left' (by simp), List.drop_append]
  simp
theorem load_liv {C : Ctx} {σ : List StB} {j o : Nat} {t t' : TypeId} {i : TI} {cs : List PV} {v : PV} (hj : σ[j]? = some (.liv t cs)) (hi : C.ty t' = some i) (hv : partP i cs o = some v) : ploadE C σ t' (.optr j o) = some v := by
  have h1 : contOf σ j = none := by unfold contOf; rw [hj]; rfl
  unfold ploadE
  rw [hi]
  simp only [h1, livOf_of hj]
  exact hv
theorem partc {σ : List StB} : ∀ {l : List (Nat × PV)} {K : List (Nat × PV) → List StB → Prop}, (l.all fun p => cloA p.2) = true → K l σ → PartK σ l K
  | [], _, _, h => ⟨h⟩
  | (i, p) :: l, K, hc, h => by
    simp only [List.all_cons, Bool.and_eq_true] at hc
    exact ⟨frzAK_clo hc.1 (partc (K := fun ps' σ'' => K ((i, p) :: ps') σ'') hc.2 h).out⟩
/-- what a call from no store of ours ends with -/
theorem Cm.ct {C : Ctx} {g : FuncId} {ps : List PV} {d : Nat} {Q : PV → List StB → Prop} {Q' : PV → Prop} (h : Cm C g ps [] d Q) (hq : ∀ r σ', Q r σ' → frzAK σ' r fun p _ => Q' p) : Ct C g ps d Q' := by
  intro H W avs hw hr hn
  have I : Sto H W d [] 0 W [] H := ⟨hn, Nat.zero_le _, Nat.le_refl _, Nat.le_refl _, fun _ _ => rfl, hw, fun _ h => h, fun _ h => .inl h, rfl, fun i b h => by simp at h, fun i t l b h => by simp at h, fun i t l b h => by simp at h, fun i j b h => by simp at h, fun i t l b h => by simp at h, fun i t l b h => by simp at h⟩
  refine (h H W d 0 W [] H avs I (by omega) (RelVs.clo hr)).mono ?_
  rintro v H' ⟨r, σ', k', W', β', E, I', hv, hQ, hk⟩
  obtain ⟨p, σ2, W2, f, r2, hp⟩ := frzAK_ok (hq r σ' hQ) I' hv
  exact ⟨p, hp, r2.mono (fun _ _ _ => rfl) (fun A _ h => f.2.1.w0 A h), I'.lo, by have := I'.hi; omega, I'.keep⟩
/-- r is a slice of a new block of ours, which holds xs -/
def Wrt (σ σ' : List StB) (r : PV) (xs : List Int) : Prop :=
  ∃ j, (r = .own j 0 xs.length xs.length 1 ∨ r = .ownu j xs.length 1) ∧ σ'[j]? = some (.live 3 (xs.map pn)) ∧ σ.length ≤ j ∧ ∀ (i : Nat) (b : StB), σ[i]? = some b → σ'[i]? = some b
theorem Wrt.fz {σ σ' : List StB} {r : PV} {xs : List Int} (h : Wrt σ σ' r xs) : frzAK σ' r fun p _ => p = pIs xs := by
  obtain ⟨j, rfl | rfl, h1, -, -⟩ := h
  · exact ⟨3, _, _, contOf_live h1, ⟨by simp, Nat.le_refl _⟩, rfl, by show PV.lst _ _ = _; rw [List.drop_zero, List.take_of_length_le (by simp)]; rfl⟩
  · exact ⟨3, _, _, contOf_live h1, ⟨by simp, fun _ => rfl⟩, rfl, by show PV.lst _ _ = _; rw [List.take_of_length_le (by simp)]; rfl⟩
end Go.PI
/- What is asked of a table of summaries. -/
namespace Go.PI
/-- the table of summaries knows none of the functions that are walked here -/
def OldO (S : FuncId → Option (List AV → Heap → Option (AV × Heap))) : Prop := ∀ f, f ≠ 8 → S f = none
end Go.PI
