/- Own work of the verifier: PvGt PvGen OgMath PiRowG PiImp OgBfs OgLabM PvYld OgK. -/
import Derived.Test.YtefajaiioljjoaaOuAS
import Derived.Test.YtefajaiioljjoaaOuAK
import Derived.ProofKit
import Derived.LaidMore
import Derived.OpenShut
import Derived.Stop.Joined
import Derived.Below
import Derived.Test.YtefajaiioljjoaaOuAO
set_option linter.all false
set_option exponentiation.threshold 3000
set_option linter.deprecated false
/- PLAIN VALUES: temporaries of which only some are told; calls that are given the store. -/
namespace Go.PI
structure Hid (p : Prop) : Prop where
  h : p
def exL (f : Nat → PV) : Nat → Nat → List PV
  | 0, _ => []
  | n + 1, i => f i :: exL f n (i + 1)
def asg : List (Nat × PV) → (Nat → PV) → Nat → PV
  | [], J, i => J i
  | (k, v) :: l, J, i => match Nat.beq k i with
    | true => v
    | false => asg l J i
def AllG (T : List PV) : List (Nat × PV) → Prop
  | [] => True
  | (k, v) :: l => T.getD k undefP = v ∧ AllG T l
def Gt (T : List PV) (n : Nat) (l : List (Nat × PV)) : Prop := T.length = n ∧ AllG T l
theorem exL_get (f : Nat → PV) : ∀ (n i j : Nat), j < n → (exL f n i)[j]? = some (f (i + j))
  | 0, _, _, h => by omega
  | n + 1, i, 0, _ => rfl
  | n + 1, i, j + 1, h => by
    show (exL f n (i + 1))[j]? = _
    rw [exL_get f n (i + 1) j (by omega)]
    congr 2
    omega
theorem exL_len (f : Nat → PV) : ∀ (n i : Nat), (exL f n i).length = n
  | 0, _ => rfl
  | n + 1, i => by show (exL f n (i + 1)).length + 1 = _; rw [exL_len f n]
theorem asg_is {T : List PV} : ∀ {l : List (Nat × PV)}, AllG T l → ∀ i, asg l (fun i => T.getD i undefP) i = T.getD i undefP
  | [], _, i => rfl
  | (k, v) :: l, h, i => by
    show (match Nat.beq k i with | true => v | false => asg l _ i) = _
    split
    · rename_i hk
      have := Nat.eq_of_beq_eq_true hk
      subst this
      exact h.1.symm
    · exact asg_is h.2 i
theorem gt_open {T : List PV} {n : Nat} {l : List (Nat × PV)} (h : Gt T n l) : ∃ J, T = exL (asg l J) n 0 := by
  refine ⟨fun i => T.getD i undefP, List.ext_getElem? fun i => ?_⟩
  by_cases hi : i < n
  · rw [exL_get _ _ _ _ hi, asg_is h.2, Nat.zero_add]
    have : i < T.length := by rw [h.1]; exact hi
    simp [List.getD, this]
  · rw [List.getElem?_eq_none (by rw [h.1]; omega), List.getElem?_eq_none (by rw [exL_len]; omega)]
variable {C : Ctx} {c k d : Nat} {σ σ1 : List StB} {g : FuncId} {K : PV → List StB → Nat → Prop}
theorem callm {ps : List PV} {Q : PV → List StB → Prop} (h : Cm C g ps σ d Q) (hk : k + d ≤ c) (hK : ∀ r σ', Q r σ' → K r σ' (k + d)) : ArgK false C c k σ g ps K :=
  ⟨.inr (.inr ⟨rfl, [], .inr ⟨[], by cases ps <;> exact ⟨d, Q, hk, h, hK⟩⟩⟩)⟩
theorem endm (ms : List Bool) {m : Nat} {vs : List PV} {Q : PV → List StB → Prop} (hk : k ≤ m) (h : frzmK σ ms vs fun vs' σ2 => Q (oneP vs') σ2) : EndMK σ k m vs Q := ⟨⟨[], hk, ms, h⟩⟩
section
variable {σ2 σ3 σ4 : List StB}
end
section
theorem load_k {C : Ctx} {σ : List StB} {j o q : Nat} {t t' : TypeId} {i : TI} {cs : List PV} {v : PV} (hi : C.ty t = some i) (hd : (match i.desc with | .struct _ | .array _ _ => false | _ => true) = true) (hc : contOf σ j = some (t', cs)) (hv : cs[q]? = some v) (ho : o = q) : ploadE C σ t (.optr j o) = some v := by
  subst ho
  unfold ploadE
  rw [hi]
  simp only [hc]
  unfold partP
  split
  · rename_i h; rw [h] at hd; cases hd
  · rename_i h; rw [h] at hd; cases hd
  · exact hv
end
end Go.PI
/- PLAIN VALUES: small facts of stores and lists. -/
namespace Go.PI
open IM
set_option maxRecDepth 10000
set_option maxHeartbeats 1000000
theorem getD_of {p : List Int} {i : Nat} {x : Int} (h : p[i]? = some x) : p.getD i 0 = x := by rw [List.getD_eq_getElem?_getD, h]; rfl
theorem push_get {σ0 : List StB} {b : StB} : (σ0 ++ [b])[σ0.length]? = some b := by simp
theorem push_set {σ0 : List StB} {b b' : StB} : (σ0 ++ [b]).set σ0.length b' = σ0 ++ [b'] := by simp
theorem push_cont {σ0 : List StB} {t : TypeId} {cs : List PV} : contOf (σ0 ++ [.live t cs]) σ0.length = some (t, cs) := by unfold contOf; rw [push_get]; rfl
theorem push_old {σ0 : List StB} {b : StB} {j : Nat} {x : StB} (h : σ0[j]? = some x) : (σ0 ++ [b])[j]? = some x := by
  rw [List.getElem?_append_left (List.getElem?_eq_some_iff.1 h).1]; exact h
theorem spl_one {cs : List PV} {i : Nat} {y : PV} (h : i < cs.length) : pspl cs i [y] = cs.set i y := by
  unfold pspl
  rw [List.set_eq_take_append_cons_drop, if_pos h]
  simp
theorem spl_at {cs : List PV} {i o : Nat} {y : PV} (ho : o = i) (h : i < cs.length) : pspl cs o [y] = cs.set i y := by rw [ho]; exact spl_one h
theorem load_liv {C : Ctx} {σ : List StB} {j o : Nat} {t t' : TypeId} {i : TI} {cs : List PV} {v : PV} (hj : σ[j]? = some (.liv t cs)) (hi : C.ty t' = some i) (hv : partP i cs o = some v) : ploadE C σ t' (.optr j o) = some v := by
  have h1 : contOf σ j = none := by unfold contOf; rw [hj]; rfl
  unfold ploadE
  rw [hi]
  simp only [h1, livOf_of hj]
  exact hv
theorem partc {σ : List StB} : ∀ {l : List (Nat × PV)} {K : List (Nat × PV) → List StB → Prop}, (l.all fun p => cloA p.2) = true → K l σ → PartK σ l K
  | [], _, _, h => ⟨h⟩
  | (i, p) :: l, K, hc, h => by
    simp only [List.all_cons, Bool.and_eq_true] at hc
    exact ⟨frzAK_clo hc.1 (partc (K := fun ps' σ'' => K ((i, p) :: ps') σ'') hc.2 h).out⟩
theorem Cm.ct {C : Ctx} {g : FuncId} {ps : List PV} {d : Nat} {Q : PV → List StB → Prop} {Q' : PV → Prop} (h : Cm C g ps [] d Q) (hq : ∀ r σ', Q r σ' → frzAK σ' r fun p _ => Q' p) : Ct C g ps d Q' := by
  intro H W avs hw hr hn
  have I : Sto H W d [] 0 W [] H := ⟨hn, Nat.zero_le _, Nat.le_refl _, Nat.le_refl _, fun _ _ => rfl, hw, fun _ h => h, fun _ h => .inl h, rfl, fun i b h => by simp at h, fun i t l b h => by simp at h, fun i t l b h => by simp at h, fun i j b h => by simp at h, fun i t l b h => by simp at h, fun i t l b h => by simp at h, fun i l b h => by simp at h⟩
  refine (h H W d 0 W [] H avs I (by omega) (RelVs.clo hr)).mono ?_
  rintro v H' ⟨r, σ', k', W', β', E, I', hv, hQ, hk⟩
  obtain ⟨p, σ2, W2, f, r2, hp⟩ := frzAK_ok (hq r σ' hQ) I' hv
  exact ⟨p, hp, r2.mono (fun _ _ _ => rfl) (fun A _ h => f.2.1.w0 A h), I'.lo, by have := I'.hi; omega, I'.keep⟩
def Wrt (σ σ' : List StB) (r : PV) (xs : List Int) : Prop :=
  ∃ j, (r = .own j 0 xs.length xs.length 1 ∨ r = .ownu j xs.length 1) ∧ σ'[j]? = some (.live 3 (xs.map pn)) ∧ σ.length ≤ j ∧ ∀ (i : Nat) (b : StB), σ[i]? = some b → σ'[i]? = some b
theorem Wrt.fz {σ σ' : List StB} {r : PV} {xs : List Int} (h : Wrt σ σ' r xs) : frzAK σ' r fun p _ => p = pIs xs := by
  obtain ⟨j, rfl | rfl, h1, -, -⟩ := h
  · exact ⟨3, _, _, contOf_live h1, ⟨by simp, Nat.le_refl _⟩, rfl, by show PV.lst _ _ = _; rw [List.drop_zero, List.take_of_length_le (by simp)]; rfl⟩
  · exact ⟨3, _, _, contOf_live h1, ⟨by simp, fun _ => rfl⟩, rfl, by show PV.lst _ _ = _; rw [List.take_of_length_le (by simp)]; rfl⟩
end Go.PI
/- PERMUTATIONS OF 0 TO n - 1: iterates, cycles, what a list of integers has to be for it. -/
namespace Go.PI
theorem len_le_of {α : Type} [DecidableEq α] : ∀ {l m : List α}, l.Nodup → (∀ x ∈ l, x ∈ m) → l.length ≤ m.length
  | [], m, _, _ => Nat.zero_le _
  | a :: l, m, hl, h => by
    have ha : a ∈ m := h a (by simp)
    have hn := List.nodup_cons.1 hl
    have := len_le_of (m := m.erase a) hn.2 fun x hx => (List.mem_erase_of_ne (fun e => hn.1 (by rw [← e]; exact hx))).2 (h x (by simp [hx]))
    rw [List.length_erase_of_mem ha] at this
    have hp := List.length_pos_of_mem ha
    simp only [List.length_cons]
    omega
theorem ex_least {P : Nat → Prop} (h : ∃ n, P n) : ∃ n, P n ∧ ∀ m, m < n → ¬ P m := by
  obtain ⟨n, hn⟩ := h
  induction n using Nat.strongRecOn with
  | ind n ih =>
    by_cases h : ∃ m, m < n ∧ P m
    · obtain ⟨m, h1, h2⟩ := h; exact ih m h1 h2
    · exact ⟨n, hn, fun m hm hp => h ⟨m, hm, hp⟩⟩
def PL (n : Nat) (f : Nat → Nat) : List Int := (List.range n).map fun i => (f i : Int)
structure IsP (n : Nat) (f g : Nat → Nat) : Prop where
  lt : ∀ i, i < n → f i < n
  glt : ∀ i, i < n → g i < n
  gf : ∀ i, i < n → g (f i) = i
  fg : ∀ i, i < n → f (g i) = i
theorem IsP.inv {n : Nat} {f g : Nat → Nat} (h : IsP n f g) : IsP n g f := ⟨h.glt, h.lt, h.fg, h.gf⟩
theorem IsP.comp {n : Nat} {f g f' g' : Nat → Nat} (h : IsP n f g) (k : IsP n f' g') : IsP n (fun i => f' (f i)) (fun i => g (g' i)) :=
  ⟨fun i hi => k.lt _ (h.lt i hi), fun i hi => h.glt _ (k.glt i hi), fun i hi => by show g (g' (f' (f i))) = i; rw [k.gf _ (h.lt i hi), h.gf i hi], fun i hi => by show f' (f (g (g' i))) = i; rw [h.fg _ (k.glt i hi), k.fg i hi]⟩
theorem IsP.inj {n : Nat} {f g : Nat → Nat} (h : IsP n f g) {i j : Nat} (hi : i < n) (hj : j < n) (e : f i = f j) : i = j := by rw [← h.gf i hi, e, h.gf j hj]
theorem PL_len {n : Nat} {f : Nat → Nat} : (PL n f).length = n := by simp [PL]
theorem PL_get {n : Nat} {f : Nat → Nat} {i : Nat} (h : i < n) : (PL n f)[i]? = some (f i : Int) := by simp [PL, h]
theorem PL_ext {n : Nat} {f : Nat → Nat} {xs : List Int} (hl : xs.length = n) (h : ∀ i, i < n → xs[i]? = some (f i : Int)) : xs = PL n f := by
  refine List.ext_getElem? fun i => ?_
  by_cases hi : i < n
  · rw [h i hi, PL_get hi]
  · rw [List.getElem?_eq_none (by omega), List.getElem?_eq_none (by rw [PL_len]; omega)]
def InR (xs : List Int) : Prop := ∀ x ∈ xs, 0 ≤ x ∧ x < xs.length
open Classical in
noncomputable def chkP (xs : List Int) : Int := if InR xs then if xs.Nodup then 0 else 3 else 2
theorem surj_of {xs : List Int} (h1 : InR xs) (h2 : xs.Nodup) {i : Nat} (hi : i < xs.length) : (i : Int) ∈ xs := by
  by_cases h : (i : Int) ∈ xs
  · exact h
  · exfalso
    have := len_le_of (l := (i : Int) :: xs) (m := List.map (fun k : Nat => (k : Int)) (List.range xs.length)) (List.nodup_cons.2 ⟨h, h2⟩) fun x hx => by
      rcases List.mem_cons.1 hx with rfl | hx
      · exact List.mem_map.2 ⟨i, List.mem_range.2 hi, rfl⟩
      · obtain ⟨a, b⟩ := h1 x hx
        exact List.mem_map.2 ⟨x.toNat, List.mem_range.2 (by omega), by omega⟩
    simp only [List.length_cons, List.length_map, List.length_range] at this
    omega
theorem perm_of {xs : List Int} (h1 : InR xs) (h2 : xs.Nodup) : ∃ f g, xs = PL xs.length f ∧ IsP xs.length f g := by
  have hget : ∀ i, i < xs.length → xs[i]? = some (((xs.getD i 0).toNat : Nat) : Int) := fun i hi => by
    have e := List.getElem?_eq_getElem hi
    have := h1 _ (List.getElem_mem hi)
    rw [List.getD_eq_getElem?_getD, e]
    simp only [Option.getD_some]
    congr 1
    omega
  have hin : ∀ i, i < xs.length → (xs.getD i 0).toNat < xs.length := fun i hi => by
    have := h1 _ (List.mem_of_getElem? (hget i hi))
    omega
  have hidx : ∀ i, i < xs.length → xs.idxOf (i : Int) < xs.length := fun i hi => List.idxOf_lt_length_of_mem (surj_of h1 h2 hi)
  have hat : ∀ i, i < xs.length → xs[xs.idxOf (i : Int)]? = some (i : Int) := fun i hi => by
    rw [List.getElem?_eq_getElem (hidx i hi), List.getElem_idxOf]
  refine ⟨fun i => (xs.getD i 0).toNat, fun i => xs.idxOf (i : Int), PL_ext rfl hget, hin, hidx, fun i hi => ?_, fun i hi => ?_⟩
  · have a := hat _ (hin i hi)
    rw [← hget i hi] at a
    exact (List.getElem?_inj (hidx _ (hin i hi)) h2).1 a
  · have a := hget _ (hidx i hi)
    rw [hat i hi] at a
    simp only [Option.some.injEq] at a
    omega
theorem inR_PL {n : Nat} {f g : Nat → Nat} (h : IsP n f g) : InR (PL n f) := fun x hx => by
  rw [PL_len]
  obtain ⟨i, hi, rfl⟩ := List.mem_map.1 hx
  have := h.lt i (List.mem_range.1 hi)
  omega
theorem chk2 {xs : List Int} (h : ¬ InR xs) : chkP xs = 2 := by unfold chkP; rw [if_neg h]
theorem chk3 {xs : List Int} (h : InR xs) (h2 : ¬ xs.Nodup) : chkP xs = 3 := by unfold chkP; rw [if_pos h, if_neg h2]
theorem chk0 {xs : List Int} (h : InR xs) (h2 : xs.Nodup) : chkP xs = 0 := by unfold chkP; rw [if_pos h, if_pos h2]
theorem chkP_cases (xs : List Int) : (chkP xs = 0 ∧ InR xs ∧ xs.Nodup) ∨ chkP xs = 3 ∨ chkP xs = 2 := by
  by_cases h : InR xs
  · by_cases h2 : xs.Nodup
    · exact .inl ⟨chk0 h h2, h, h2⟩
    · exact .inr (.inl (chk3 h h2))
  · exact .inr (.inr (chk2 h))
def it (f : Nat → Nat) : Nat → Nat → Nat
  | 0, x => x
  | k + 1, x => f (it f k x)
section
variable {n : Nat} {f g : Nat → Nat} {x y : Nat}
theorem it_add (f : Nat → Nat) (a b x : Nat) : it f (a + b) x = it f a (it f b x) := by
  induction a with
  | zero => simp [it]
  | succ a ih => rw [show a + 1 + b = a + b + 1 by omega]; simp only [it]; rw [ih]
theorem it_succ' (f : Nat → Nat) (k x : Nat) : it f (k + 1) x = it f k (f x) := it_add f k 1 x
theorem it_lt (h : IsP n f g) (hx : x < n) (k : Nat) : it f k x < n := by
  induction k with
  | zero => exact hx
  | succ k ih => exact h.lt _ ih
theorem it_inj (h : IsP n f g) (hx : x < n) (hy : y < n) : ∀ {k : Nat}, it f k x = it f k y → x = y
  | 0, e => e
  | k + 1, e => it_inj h hx hy (h.inj (it_lt h hx k) (it_lt h hy k) e)
theorem it_mul {m : Nat} (h : it f m x = x) (q : Nat) : it f (m * q) x = x := by
  induction q with
  | zero => rfl
  | succ q ih => rw [Nat.mul_succ, it_add, h, ih]
theorem returns (h : IsP n f g) (hx : x < n) : ∃ m, 0 < m ∧ m ≤ n ∧ it f m x = x := by
  by_cases hc : ∃ a b, a < b ∧ b ≤ n ∧ it f a x = it f b x
  · obtain ⟨a, b, h1, h2, h3⟩ := hc
    refine ⟨b - a, by omega, by omega, ?_⟩
    have e : it f b x = it f a (it f (b - a) x) := by rw [← it_add]; congr 1; omega
    rw [e] at h3
    exact (it_inj h hx (it_lt h hx _) h3).symm
  · exfalso
    have hd : ((List.range (n + 1)).map fun k => it f k x).Nodup := by
      unfold List.Nodup
      rw [List.pairwise_map]
      exact List.pairwise_lt_range.imp_of_mem fun {a b} _ hb hab e => hc ⟨a, b, hab, by have := List.mem_range.1 hb; omega, e⟩
    have := len_le_of hd (m := List.range n) fun y hy => by
      obtain ⟨k, -, rfl⟩ := List.mem_map.1 hy
      exact List.mem_range.2 (it_lt h hx k)
    simp only [List.length_map, List.length_range] at this
    omega
open Classical in
/-- the length of a cycle -/
noncomputable def ordr (f : Nat → Nat) (x : Nat) : Nat := if h : ∃ m, 0 < m ∧ it f m x = x then (ex_least h).choose else 0
theorem ordr_spec (h : IsP n f g) (hx : x < n) : 0 < ordr f x ∧ it f (ordr f x) x = x ∧ ordr f x ≤ n ∧ ∀ m, 0 < m → m < ordr f x → it f m x ≠ x := by
  obtain ⟨m, h1, h2, h3⟩ := returns h hx
  have he : ∃ m, 0 < m ∧ it f m x = x := ⟨m, h1, h3⟩
  have hs := (ex_least he).choose_spec
  have e : ordr f x = (ex_least he).choose := by unfold ordr; rw [dif_pos he]
  rw [← e] at hs
  refine ⟨hs.1.1, hs.1.2, ?_, fun m a b c => hs.2 m b ⟨a, c⟩⟩
  refine Nat.le_trans (Nat.le_of_not_lt fun hlt => ?_) h2
  exact hs.2 m hlt ⟨h1, h3⟩
def InC (f : Nat → Nat) (x y : Nat) : Prop := ∃ k, it f k x = y
theorem InC.refl (f : Nat → Nat) (x : Nat) : InC f x x := ⟨0, rfl⟩
theorem InC.trans {z : Nat} (a : InC f x y) (b : InC f y z) : InC f x z := by
  obtain ⟨k, rfl⟩ := a
  obtain ⟨m, rfl⟩ := b
  exact ⟨m + k, it_add f m k x⟩
theorem InC.symm (h : IsP n f g) (hx : x < n) (a : InC f x y) : InC f y x := by
  obtain ⟨k, rfl⟩ := a
  obtain ⟨h1, h2, -⟩ := ordr_spec h hx
  refine ⟨ordr f x * k - k, ?_⟩
  have : k ≤ ordr f x * k := Nat.le_mul_of_pos_left k h1
  rw [← it_add, show ordr f x * k - k + k = ordr f x * k by omega, it_mul h2]
end
end Go.PI
/- FROM THE INTERPRETER's WORD TO A ROW. -/
namespace Go.PI
open Go.ChangeShapes Go.WideShapes Go.ChangeAt Go.RowKit
theorem post_of_below {H : Type} {enc : TypeId × Value → H} {P : Program} {f : Func} {s : ChangeSpec} {apart fresh handsOn again : Bool} {W W' : World} {args : Array Value} {v : Value} {ds gs : List (DataW H)} {before pa pv : List MemPlace}
    (hW : DataW.Whole enc P f.params.toList s.vars apart W args.toList ds gs before)
    (hres : ∀ (b : Nat) (sp : Nat → Bool) (hd : Bool), DataW.TrodAll enc P W' b sp hd f.resultTypes.toList (v.resultList f.resultTypes.size) (s.fn H (ds ++ gs)).results [])
    (hargs : ∀ sp : Nat → Bool, (∀ p ∈ before, sp p.block = true) → DataW.TrodAll enc P W' 0 sp true f.params.toList args.toList (s.fn H (ds ++ gs)).args pa)
    (hvars : ∀ sp : Nat → Bool, (∀ p ∈ before, sp p.block = true) → DataW.TrodVars enc P W' sp s.vars (s.fn H (ds ++ gs)).vars pv)
    (hps : before = pa ++ pv) (hB : Below W.heap.size W W')
    (hok : ∀ (j : Nat) (t : TypeId) (r : Value), f.resultTypes[j]? = some t → (v.resultList f.resultTypes.size)[j]? = some r → Value.okWide P W' .any 0 t r) :
    s.post enc P f apart fresh handsOn again W args v W' := by
  have hold : ∀ p ∈ before, (fun b => decide (b < W.heap.size)) p.block = true := fun p hp => by simpa using hW.lt p hp
  have hlt := fun p hp => hW.lt p hp
  refine ⟨ds, gs, before, [], pa, pv, hW, hres _ _ _, hargs _ hold, hvars _ hold, World.keptBut_mono (fun p hp => ⟨hp, ?_⟩) (hB.frame (· ∈ before)), fun _ => ?_⟩
  · rw [hps, List.mem_append] at hp
    exact Or.inr hp
  · obtain ⟨_, _, _, _, _, hz, hn⟩ := hW
    refine ⟨hok, _, _, ([] ++ pa) ++ pv, ⟨[] ++ pa, pv, trodAll_append (hargs _ (fun _ _ => rfl)) (hres _ _ _), hvars _ (fun _ _ => rfl), rfl, ?_, ?_⟩, ?_⟩
    · intro b off hp
      have hp2 := hz b off (by rw [hps]; simpa using hp)
      have hp3 := hlt _ (by rw [hps]; simpa using hp)
      rw [hB.frozen (p := ⟨b, off, none⟩) hp3]
      exact hp2
    · intro ha
      have := hn ha
      rw [hps] at this
      simpa using this
    · intro p hp _
      rw [hps]
      simpa using hp
end Go.PI
/- ARGUMENTS: slices of integers that came in, as blocks that are only read. -/
namespace Go.PI
open Go.ChangeShapes Go.WideShapes Go.ChangeAt Go.RowKit
def NoOwn (H : Heap) : Prop := ∀ A, (H.get A).own = false
structure Imp (W : World) (μ : M) (H : Heap) : Prop where
  hr : HR μ H W
  no : NoOwn H
theorem below_of {μ : M} {H H' : Heap} {w w' : World} {v : AV} {u : Value} (hno : NoOwn H) (h : EffR μ H w v H' u w') : Below w.heap.size w w' := by
  obtain ⟨μ', -, -, hf⟩ := h
  refine ⟨hf.os, hf.tape, hf.output, hf.size, fun k hk => (hf.keep k hk ?_).1⟩
  rintro ⟨A, a, ho, -⟩
  rw [hno A] at ho
  cases ho
theorem imp0 (W : World) : Imp W (fun _ => none) ⟨0, .nil⟩ :=
  ⟨⟨by simp [PI.lim], fun _ _ => rfl, fun A bi hl hm => (by cases hm), fun A B a b _ _ _ hm => (by cases hm)⟩, fun A => by unfold Heap.get; simp [Blk.own]⟩
theorem Imp.push {W : World} {μ : M} {H : Heap} (h : Imp W μ H) (hn : H.n < lim) {bi : BI} {b : Blk} (ho : b.own = false) (hb : b.live = true → bi.c < W.heap.size ∧ BlkR (μ.set H.n bi) W bi b) :
    Imp W (μ.set H.n bi) (H.push b) ∧ M.le μ (μ.set H.n bi) := by
  have hle : M.le μ (μ.set H.n bi) := M.le_set (h.hr.dom _ (Nat.le_refl _))
  have hp := Heap.get_push (H := H) (b := b) hn
  refine ⟨⟨⟨?_, ?_, ?_, ?_⟩, ?_⟩, hle⟩
  · show H.n + 1 ≤ lim
    omega
  · intro A hA
    have hA : H.n + 1 ≤ A := hA
    unfold M.set
    rw [if_neg (by omega)]
    exact h.hr.dom A (by omega)
  · intro A bj hl hm
    rw [hp] at hl ⊢
    by_cases hA : A = H.n
    · subst hA
      rw [if_pos rfl] at hl ⊢
      rw [M.set_self] at hm
      cases hm
      exact hb hl
    · rw [if_neg hA] at hl ⊢
      unfold M.set at hm
      rw [if_neg hA] at hm
      obtain ⟨h1, h2⟩ := h.hr.blk A bj hl hm
      exact ⟨h1, h2.mono hle rfl⟩
  · intro A B a b' hAB hA
    rw [hp] at hA
    by_cases hA' : A = H.n
    · rw [if_pos hA', ho] at hA; cases hA
    · rw [if_neg hA', h.no A] at hA; cases hA
  · intro A
    rw [hp]
    by_cases hA : A = H.n
    · rw [if_pos hA]; exact ho
    · rw [if_neg hA]; exact h.no A
def slen : AV → Option Nat
  | .nils | .sle => some 0
  | .sl _ _ n _ | .slu _ _ n _ => some n
  | _ => none
def Seen (H : Heap) (v : AV) (xs : List Int) : Prop := slen v = some xs.length ∧ (xs.length ≤ 1000 → Sl H v xs)
theorem Seen.mono {H H' : Heap} {v : AV} {xs : List Int} (h : Seen H v xs) (k : ∀ A, A < H.n → H'.get A = H.get A) : Seen H' v xs := ⟨h.1, fun hl => (h.2 hl).mono k⟩
theorem cell_zero {W : World} {a : Addr} {v : Value} (h : W.cell? (a.add 0) = some v) : a = ⟨a.block, a.off, none⟩ := by
  obtain ⟨b, o, s⟩ := a
  cases s with
  | none => rfl
  | some s =>
    unfold World.cell? at h
    simp only [Addr.add, if_true] at h
    split at h
    · simp at h
    · cases h
theorem cell_row {W : World} {b o i : Nat} {v : Value} (h : W.cell? (Addr.add ⟨b, o, none⟩ i) = some v) : ∃ carr ty fz, W.heap[b]? = some (.cells carr ty fz) ∧ carr[o + i]? = some v := by
  have e : Addr.add ⟨b, o, none⟩ i = ⟨b, o + i, none⟩ := by
    unfold Addr.add
    split
    · rename_i h0; subst h0; rfl
    · rfl
  rw [e] at h
  unfold World.cell? at h
  split at h
  · rename_i carr ty fz hc
    exact ⟨carr, ty, fz, hc, by simpa using h⟩
  · cases h
end Go.PI
/- SQUARES in the order in which they are reached. -/
namespace Go.PI
def addL (xs : List Nat) (x : Nat) : List Nat := if x ∈ xs then xs else xs ++ [x]
theorem addL_mem {xs : List Nat} {x y : Nat} : y ∈ addL xs x ↔ y ∈ xs ∨ y = x := by
  unfold addL
  by_cases h : x ∈ xs
  · rw [if_pos h]
    exact ⟨.inl, fun a => by rcases a with a | rfl; exact a; exact h⟩
  · rw [if_neg h]; simp
theorem addL_nodup {xs : List Nat} {x : Nat} (h : xs.Nodup) : (addL xs x).Nodup := by
  unfold addL
  by_cases hx : x ∈ xs
  · rw [if_pos hx]; exact h
  · rw [if_neg hx]
    exact List.nodup_append.2 ⟨h, by simp, fun a ha b hb => by rw [List.mem_singleton.1 hb]; rintro rfl; exact hx ha⟩
theorem addL_pre {xs : List Nat} {x : Nat} : xs <+: addL xs x := by
  unfold addL
  by_cases hx : x ∈ xs
  · rw [if_pos hx]; exact List.prefix_refl _
  · rw [if_neg hx]; exact List.prefix_append _ _
theorem addL_get {xs : List Nat} {x y p : Nat} (h : (addL xs x)[p]? = some y) : xs[p]? = some y ∨ (p = xs.length ∧ y = x) := by
  unfold addL at h
  by_cases hx : x ∈ xs
  · rw [if_pos hx] at h; exact .inl h
  · rw [if_neg hx] at h
    rcases Nat.lt_trichotomy p xs.length with a | a | a
    · rw [List.getElem?_append_left a] at h; exact .inl h
    · subst a; simp at h; exact .inr ⟨rfl, h.symm⟩
    · rw [List.getElem?_eq_none (by simp; omega)] at h; cases h
section
variable (f g : Nat → Nat) (s : Nat)
def nxt (xs : List Nat) (i : Nat) : List Nat :=
  match xs[i]? with
  | some x => addL (addL xs (f x)) (g x)
  | none => xs
def bfs : Nat → List Nat
  | 0 => [s]
  | i + 1 => nxt f g (bfs i) i
inductive Rch : Nat → Prop
  | refl : Rch s
  | f {y : Nat} (h : Rch y) : Rch (f y)
  | g {y : Nat} (h : Rch y) : Rch (g y)
def RchK : Nat → Nat → Prop
  | 0, y => y = s
  | k + 1, y => RchK k y ∨ ∃ z, RchK k z ∧ (y = f z ∨ y = g z)
end
section
variable {f g : Nat → Nat} {s : Nat}
theorem nxt_at {xs : List Nat} {i x : Nat} (h : xs[i]? = some x) : nxt f g xs i = addL (addL xs (f x)) (g x) := by unfold nxt; rw [h]
theorem nxt_pre {xs : List Nat} {i : Nat} : xs <+: nxt f g xs i := by
  unfold nxt
  split
  · exact List.IsPrefix.trans addL_pre addL_pre
  · exact List.prefix_refl _
theorem bfs_pre : ∀ (k : Nat) {i : Nat}, bfs f g s i <+: bfs f g s (i + k)
  | 0, _ => List.prefix_refl _
  | k + 1, i => List.IsPrefix.trans (bfs_pre k) (show bfs f g s (i + k) <+: nxt f g (bfs f g s (i + k)) (i + k) from nxt_pre)
theorem bfs_nodup : ∀ i, (bfs f g s i).Nodup
  | 0 => by simp [bfs]
  | i + 1 => by
    show (nxt f g (bfs f g s i) i).Nodup
    unfold nxt
    split
    · exact addL_nodup (addL_nodup (bfs_nodup i))
    · exact bfs_nodup i
theorem bfs_lt {n : Nat} {f' g' : Nat → Nat} (pf : IsP n f f') (pg : IsP n g g') (hs : s < n) : ∀ i, ∀ y ∈ bfs f g s i, y < n
  | 0, y, hy => by rw [List.mem_singleton.1 hy]; exact hs
  | i + 1, y, hy => by
    have ih := bfs_lt pf pg hs i
    change y ∈ nxt f g (bfs f g s i) i at hy
    unfold nxt at hy
    split at hy
    · rename_i x hx
      have hxn := ih x (List.mem_of_getElem? hx)
      rcases addL_mem.1 hy with hy | rfl
      · rcases addL_mem.1 hy with hy | rfl
        · exact ih y hy
        · exact pf.lt x hxn
      · exact pg.lt x hxn
    · exact ih y hy
theorem bfs_len {n : Nat} {f' g' : Nat → Nat} (pf : IsP n f f') (pg : IsP n g g') (hs : s < n) (i : Nat) : (bfs f g s i).length ≤ n := by
  have := len_le_of (bfs_nodup (f := f) (g := g) (s := s) i) (m := List.range n) fun y hy => List.mem_range.2 (bfs_lt pf pg hs i y hy)
  rwa [List.length_range] at this
theorem bfs_get {i p k y : Nat} (h : (bfs f g s i)[p]? = some y) : (bfs f g s (i + k))[p]? = some y := by
  obtain ⟨t, ht⟩ := bfs_pre (f := f) (g := g) (s := s) k (i := i)
  rw [← ht, List.getElem?_append_left (List.getElem?_eq_some_iff.1 h).1]
  exact h
theorem bfs_mem {i k y : Nat} (h : y ∈ bfs f g s i) : y ∈ bfs f g s (i + k) := (bfs_pre (f := f) (g := g) (s := s) k (i := i)).subset h
theorem bfs_steps {i p y : Nat} (hp : p < i) (h : (bfs f g s i)[p]? = some y) : f y ∈ bfs f g s i ∧ g y ∈ bfs f g s i := by
  have hy : (bfs f g s p)[p]? = some y ∨ p ≥ (bfs f g s p).length := by
    rcases Nat.lt_or_ge p (bfs f g s p).length with a | a
    · obtain ⟨z, hz⟩ : ∃ z, (bfs f g s p)[p]? = some z := ⟨_, List.getElem?_eq_getElem a⟩
      have := bfs_get (k := i - p) hz
      rw [show p + (i - p) = i by omega, h] at this
      cases this
      exact .inl hz
    · exact .inr a
  rcases hy with hy | hy
  · have e : bfs f g s (p + 1) = addL (addL (bfs f g s p) (f y)) (g y) := nxt_at hy
    have h1 : f y ∈ bfs f g s (p + 1) := by rw [e, addL_mem, addL_mem]; exact .inl (.inr rfl)
    have h2 : g y ∈ bfs f g s (p + 1) := by rw [e, addL_mem]; exact .inr rfl
    have a := bfs_mem (k := i - (p + 1)) h1
    have b := bfs_mem (k := i - (p + 1)) h2
    rw [show p + 1 + (i - (p + 1)) = i by omega] at a b
    exact ⟨a, b⟩
  · exfalso
    have hst : ∀ k, bfs f g s (p + k) = bfs f g s p := by
      intro k
      induction k with
      | zero => rfl
      | succ k ih =>
        show nxt f g (bfs f g s (p + k)) (p + k) = _
        rw [ih]
        unfold nxt
        rw [List.getElem?_eq_none (by omega)]
    have := hst (i - p)
    rw [show p + (i - p) = i by omega] at this
    rw [this, List.getElem?_eq_none hy] at h
    cases h
theorem bfs_all {k : Nat} (h : (bfs f g s k).length ≤ k) {y : Nat} (hy : Rch f g s y) : y ∈ bfs f g s k := by
  induction hy with
  | refl =>
    have := bfs_mem (k := k) (show s ∈ bfs f g s 0 by simp [bfs])
    rwa [Nat.zero_add] at this
  | f _ ih =>
    obtain ⟨p, hp⟩ := List.getElem?_of_mem ih
    have := (List.getElem?_eq_some_iff.1 hp).1
    exact (bfs_steps (by omega) hp).1
  | g _ ih =>
    obtain ⟨p, hp⟩ := List.getElem?_of_mem ih
    have := (List.getElem?_eq_some_iff.1 hp).1
    exact (bfs_steps (by omega) hp).2
theorem rchK_mono {k y : Nat} : ∀ m, RchK f g s k y → RchK f g s (k + m) y
  | 0, h => h
  | m + 1, h => .inl (rchK_mono m h)
theorem rchK_rch : ∀ {k y : Nat}, RchK f g s k y → Rch f g s y
  | 0, _, h => by rw [show _ = s from h]; exact .refl
  | k + 1, y, h => by
    rcases h with h | ⟨z, h, rfl | rfl⟩
    · exact rchK_rch h
    · exact .f (rchK_rch h)
    · exact .g (rchK_rch h)
theorem bfs_dist : ∀ (i p y : Nat), (bfs f g s i)[p]? = some y → RchK f g s p y
  | 0, p, y, h => by
    cases p with
    | zero => simp [bfs] at h; exact h.symm
    | succ p => simp [bfs] at h
  | i + 1, p, y, h => by
    change (nxt f g (bfs f g s i) i)[p]? = some y at h
    unfold nxt at h
    split at h
    · rename_i x hx
      have hxi := (List.getElem?_eq_some_iff.1 hx).1
      have hxd := bfs_dist i i x hx
      rcases addL_get h with h | ⟨hp, rfl⟩
      · rcases addL_get h with h | ⟨hp, rfl⟩
        · exact bfs_dist i p y h
        · have : RchK f g s (i + 1) (f x) := .inr ⟨x, hxd, .inl rfl⟩
          have := rchK_mono (p - (i + 1)) this
          rwa [show i + 1 + (p - (i + 1)) = p by omega] at this
      · have h1 : (bfs f g s i).length ≤ (addL (bfs f g s i) (f x)).length := (addL_pre (xs := bfs f g s i) (x := f x)).length_le
        have : RchK f g s (i + 1) (g x) := .inr ⟨x, hxd, .inr rfl⟩
        have := rchK_mono (p - (i + 1)) this
        rwa [show i + 1 + (p - (i + 1)) = p by omega] at this
    · exact bfs_dist i p y h
theorem bfs_rch {i y : Nat} (h : y ∈ bfs f g s i) : Rch f g s y := by
  obtain ⟨p, hp⟩ := List.getElem?_of_mem h
  exact rchK_rch (bfs_dist i p y hp)
theorem bfs_iff {k : Nat} (h : (bfs f g s k).length ≤ k) {y : Nat} : y ∈ bfs f g s k ↔ Rch f g s y := ⟨bfs_rch, bfs_all h⟩
theorem Rch.trans {y z : Nat} (a : Rch f g s y) (b : Rch f g y z) : Rch f g s z := by
  induction b with
  | refl => exact a
  | f _ ih => exact .f ih
  | g _ ih => exact .g ih
theorem Rch.itf {k y : Nat} (h : Rch f g s y) : Rch f g s (it f k y) := by
  induction k with
  | zero => exact h
  | succ k ih => exact .f ih
theorem Rch.itg {k y : Nat} (h : Rch f g s y) : Rch f g s (it g k y) := by
  induction k with
  | zero => exact h
  | succ k ih => exact .g ih
theorem rch_lt {n : Nat} {f' g' : Nat → Nat} (pf : IsP n f f') (pg : IsP n g g') (hs : s < n) {y : Nat} (h : Rch f g s y) : y < n := by
  induction h with
  | refl => exact hs
  | f _ ih => exact pf.lt _ ih
  | g _ ih => exact pg.lt _ ih
theorem Rch.symm {n : Nat} {f' g' : Nat → Nat} (pf : IsP n f f') (pg : IsP n g g') (hs : s < n) {y : Nat} (h : Rch f g s y) : Rch f g y s := by
  induction h with
  | refl => exact .refl
  | @f z hz ih =>
    have hzn := rch_lt pf pg hs hz
    obtain ⟨k, hk⟩ := InC.symm pf hzn (⟨1, rfl⟩ : InC f z (f z))
    exact (show Rch f g (f z) z by have := Rch.itf (g := g) (k := k) (.refl : Rch f g (f z) (f z)); rwa [hk] at this).trans ih
  | @g z hz ih =>
    have hzn := rch_lt pf pg hs hz
    obtain ⟨k, hk⟩ := InC.symm pg hzn (⟨1, rfl⟩ : InC g z (g z))
    exact (show Rch f g (g z) z by have := Rch.itg (f := f) (k := k) (.refl : Rch f g (g z) (g z)); rwa [hk] at this).trans ih
end
def Conn (n : Nat) (f g : Nat → Nat) : Prop := ∀ y, y < n → Rch f g 0 y
theorem conn_len {n : Nat} {f f' g g' : Nat → Nat} (pf : IsP n f f') (pg : IsP n g g') (h0 : 0 < n) {k : Nat} (h : (bfs f g 0 k).length ≤ k) : (bfs f g 0 k).length = n ↔ Conn n f g := by
  have hle := bfs_len pf pg h0 k
  constructor
  · intro e y hy
    rw [← bfs_iff h]
    refine Classical.byContradiction fun hc => ?_
    have := len_le_of (List.nodup_cons.2 ⟨hc, bfs_nodup k⟩) (m := List.range n) fun z hz => by
      rcases List.mem_cons.1 hz with rfl | hz
      · exact List.mem_range.2 hy
      · exact List.mem_range.2 (bfs_lt pf pg h0 k z hz)
    simp only [List.length_cons, List.length_range] at this
    omega
  · intro hc
    have := len_le_of (l := List.range n) (m := bfs f g 0 k) (by unfold List.Nodup; exact List.pairwise_lt_range.imp fun h e => by omega) fun y hy => (bfs_iff h).2 (hc y (List.mem_range.1 hy))
    rw [List.length_range] at this
    omega
end Go.PI
/- NUMBERINGS AND LABELS: what they are. -/
namespace Go.PI
set_option maxRecDepth 10000
set_option maxHeartbeats 4000000
def es (f g : Nat → Nat) (n s k : Nat) : Nat := (bfs f g s n).getD k 0
def ei (f g : Nat → Nat) (n s x : Nat) : Nat := (bfs f g s n).idxOf x
def rn (e e' f : Nat → Nat) (k : Nat) : Nat := e' (f (e k))
def Lt (xs ys : List Int) : Prop := ∃ k a b, xs.take k = ys.take k ∧ xs[k]? = some a ∧ ys[k]? = some b ∧ a < b
theorem take_get {xs ys : List Int} {k i : Nat} (h : xs.take k = ys.take k) (hi : i < k) : xs[i]? = ys[i]? := by
  have := congrArg (fun l : List Int => l[i]?) h
  simp only [List.getElem?_take, if_pos hi] at this
  exact this
theorem lt_at {xs ys : List Int} {k : Nat} {a b : Int} (h : xs.take k = ys.take k) (ha : xs[k]? = some a) (hb : ys[k]? = some b) (hne : a ≠ b) : Lt xs ys ↔ a < b := by
  constructor
  · rintro ⟨k', a', b', h', ha', hb', hlt⟩
    rcases Nat.lt_trichotomy k' k with e | e | e
    · have := take_get h e
      rw [ha', hb'] at this
      have := Option.some.inj this
      omega
    · subst e
      rw [ha] at ha'; rw [hb] at hb'
      have := Option.some.inj ha'
      have := Option.some.inj hb'
      omega
    · have := take_get h' e
      rw [ha, hb] at this
      exact absurd (Option.some.inj this) hne
  · exact fun hlt => ⟨k, a, b, h, ha, hb, hlt⟩
end Go.PI
/- PLAIN VALUES: the body of a loop over a function. -/
namespace Go.PI
def pfold (T : List PV) : List Tmp → List PV → List PV
  | p :: ps, a :: as => pfold (T.set p a) ps as
  | _, _ => T
theorem pfold_rel {H : Heap} {W : Nat → Prop} {β : List Nat} : ∀ {ps : List Tmp} {T : List PV} {T' : List AV} {as : List PV} {bs : List AV}, All2 (RelV H W β) T T' → All2 (RelV H W β) as bs → All2 (RelV H W β) (pfold T ps as) (foldPar T' ps bs)
  | [], T, T', as, bs, h, k => by
    cases k <;> exact h
  | p :: ps, T, T', as, bs, h, k => by
    cases k with
    | nil => exact h
    | cons a b => exact pfold_rel (ps := ps) (All2.set h a p) b
def Ex.cont (e : Ex) : Bool := e.jump.isNone
def LpD.to (y : LpD) (e : Ex) : LpD := { y with st := if e.cont then .ready else .done, e := e }
def LpD.busy (y : LpD) : LpD := { y with st := .busy }
theorem cy_of (O : Opn) {C : Ctx} {i : Nat} {ps : List PV} {σ : List StB} {d : Nat} {Q : Bool → List StB → Prop} {x : LpD} (hi : σ[i]? = some (.lp x)) (hst : x.st = .ready) (hlen : ps.length = x.ps.size)
    (h : ∀ c k, k + d ≤ c → wC O (some i) C c x.as ⟨pfold x.T x.ps.toList ps, σ, k⟩ fun e s => e = .normal ∧ ∃ y, s.σ[i]? = some (.lp y) ∧ y.st = .ready ∧
      wC O (some i) C c x.bd ⟨s.T, s.σ.set i (.lp y.busy), s.k⟩ fun e s2 => ∃ z, s2.σ[i]? = some (.lp z) ∧ s2.k ≤ k + d ∧ Q e.cont (s2.σ.set i (.lp (z.to e)))) : Cy C i ps σ d Q := by
  intro H0 W0 c k W β H as l I hc hl hr
  obtain ⟨hW, L, hL, hx⟩ := I.lop i x l hi hl
  have hst0 : SR (some i) W β H H0 W0 c ⟨pfold x.T x.ps.toList ps, σ, k⟩ ⟨foldPar L.tmps L.params.toList as, H, []⟩ := by
    refine ⟨W, β, ⟨fun _ => rfl, List.nodup_nil, fun d hd => by cases hd⟩, Ext.refl _ _ _, I, ?_⟩
    rw [hx.ps]
    exact pfold_rel hx.T hr
  obtain ⟨n1, e1, t1, h1, s1, ⟨W1, β1, hd1, E1, I1, hr1⟩, he1, y, hy, hyst, h2⟩ := wC_ok (rd := some i) (rdH := some l) (show β[i]? = some l from hl) (h c k hc) hst0
  subst he1
  obtain ⟨T1, H1, D1⟩ := t1
  simp only at hd1 E1 I1 hr1 h2
  have hD1 : D1 = [] := hd1.nil rfl
  subst hD1
  have hl1 := E1.bt _ _ hl
  obtain ⟨hW1, L1, hL1, hy1⟩ := I1.lop i y l hy hl1
  obtain ⟨E2, I2⟩ := I1.writeB hy rfl hl1 (y := .lp y.busy) (bk := .loop { L1 with state := .busy }) ⟨_, rfl, rfl, hy1.e, hy1.ps, hy1.as, hy1.bd, hy1.T⟩
  have E12 := E1.trans E2
  have hst2 : SR (some i) W1 β1 (H1.set l (.loop { L1 with state := .busy })) H0 W0 c ⟨s1.T, s1.σ.set i (.lp y.busy), s1.k⟩ ⟨T1, H1.set l (.loop { L1 with state := .busy }), []⟩ :=
    ⟨W1, β1, ⟨fun _ => rfl, List.nodup_nil, fun d hd => by cases hd⟩, Ext.refl _ _ _, I2, RelVs.ext E2 hr1⟩
  obtain ⟨n2, e2, t2, h3, s2, ⟨W2, β2, hd2, E3, I3, hr2⟩, z, hz, hk, hQ⟩ := wC_ok (rd := some i) (rdH := some l) (show β1[i]? = some l from hl1) h2 hst2
  obtain ⟨T2, H2, D2⟩ := t2
  simp only at hd2 E3 I3 hr2 hz hk hQ
  have hD2 : D2 = [] := hd2.nil rfl
  subst hD2
  have hl2 := E3.bt _ _ hl1
  obtain ⟨hW2, L2, hL2, hz2⟩ := I3.lop i z l hz hl2
  obtain ⟨E4, I4⟩ := I3.writeB hz rfl hl2 (y := .lp (z.to e2)) (bk := .loop { L2 with state := if e2.jump.isNone then .ready else .done, pending := e2.jump }) ⟨_, rfl, rfl, rfl, hz2.ps, hz2.as, hz2.bd, hz2.T⟩
  refine ⟨max n1 n2, .bool e2.jump.isNone, H2.set l (.loop { L2 with state := if e2.jump.isNone then .ready else .done, pending := e2.jump }), ?_, e2.cont, _, s2.k, W2, β2, (E12.trans E3).trans E4, I4, rfl, hQ, hk⟩
  have hal : as.length = L.params.size := by rw [hx.ps, ← hlen, hr.length]
  rw [← hx.as] at h1
  rw [← hx.bd] at h3
  have h1' := ev_mono (Nat.le_max_left n1 n2) _ _ _ _ h1
  have h3' : ev C (max n1 n2) (some l) L.body ⟨T1, H1.set l (.loop { L1 with state := .busy }), []⟩ = some (e2, ⟨T2, H2, []⟩) := ev_mono (Nat.le_max_right n1 n2) _ _ _ _ h3
  simp only [yieldF, hL]
  rw [if_pos ⟨hal, hx.st.trans hst⟩, h1']
  simp only [hL1]
  rw [if_pos (hy1.st.trans hyst), h3']
  simp only [hL2]
end Go.PI
/- CONJUGATE PERMUTATIONS have cycles of the same lengths; quotients rounded down. -/
namespace Go.PI
section
variable {n : Nat} {c c' d d' h h' : Nat → Nat}
def Conj (n : Nat) (c d h : Nat → Nat) : Prop := ∀ x, x < n → d (h x) = h (c x)
theorem nodup_range (n : Nat) : (List.range n).Nodup := by
  unfold List.Nodup
  exact List.pairwise_lt_range.imp fun h e => by omega
theorem Conj.inv (hc : IsP n c c') (hh : IsP n h h') (k : Conj n c d h) (hd : IsP n d d') : Conj n d c h' := fun x hx => by
  have := k (h' x) (hh.glt x hx)
  rw [hh.fg x hx] at this
  rw [this, hh.gf _ (hc.lt _ (hh.glt x hx))]
end
def FloorIs (p q k : Int) : Prop := ∃ m, p = k * q + m ∧ (0 < q → 0 ≤ m ∧ m < q) ∧ (q < 0 → q < m ∧ m ≤ 0)
end Go.PI
