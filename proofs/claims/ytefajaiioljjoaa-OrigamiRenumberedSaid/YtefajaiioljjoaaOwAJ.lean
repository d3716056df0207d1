/- Own work of the verifier: PiTree PiMono PiQuick PiDrawQ. -/
import Derived.Test.YtefajaiioljjoaaOwAI
set_option linter.all false
set_option exponentiation.threshold 3000
set_option linter.deprecated false
/- THE TEMPORARIES AS A TREE. -/
namespace Go.PI
set_option linter.unusedVariables false
structure N16 (α : Type) where
  mk :: (a0 a1 a2 a3 a4 a5 a6 a7 a8 a9 a10 a11 a12 a13 a14 a15 : α)
structure GB (α : Type) where
  f : N16 α → α
structure PB (α : Type) where
  f : N16 α → α → N16 α
section
variable (α : Type)
def get16 : Nat → GB α
  | 0 => ⟨fun t => t.a0⟩
  | 1 => ⟨fun t => t.a1⟩
  | 2 => ⟨fun t => t.a2⟩
  | 3 => ⟨fun t => t.a3⟩
  | 4 => ⟨fun t => t.a4⟩
  | 5 => ⟨fun t => t.a5⟩
  | 6 => ⟨fun t => t.a6⟩
  | 7 => ⟨fun t => t.a7⟩
  | 8 => ⟨fun t => t.a8⟩
  | 9 => ⟨fun t => t.a9⟩
  | 10 => ⟨fun t => t.a10⟩
  | 11 => ⟨fun t => t.a11⟩
  | 12 => ⟨fun t => t.a12⟩
  | 13 => ⟨fun t => t.a13⟩
  | 14 => ⟨fun t => t.a14⟩
  | _ => ⟨fun t => t.a15⟩
noncomputable def set16 : Nat → PB α
  | 0 => ⟨fun t v => N16.rec (motive := fun _ => N16 α) (fun a0 a1 a2 a3 a4 a5 a6 a7 a8 a9 a10 a11 a12 a13 a14 a15 => N16.mk v a1 a2 a3 a4 a5 a6 a7 a8 a9 a10 a11 a12 a13 a14 a15) t⟩
  | 1 => ⟨fun t v => N16.rec (motive := fun _ => N16 α) (fun a0 a1 a2 a3 a4 a5 a6 a7 a8 a9 a10 a11 a12 a13 a14 a15 => N16.mk a0 v a2 a3 a4 a5 a6 a7 a8 a9 a10 a11 a12 a13 a14 a15) t⟩
  | 2 => ⟨fun t v => N16.rec (motive := fun _ => N16 α) (fun a0 a1 a2 a3 a4 a5 a6 a7 a8 a9 a10 a11 a12 a13 a14 a15 => N16.mk a0 a1 v a3 a4 a5 a6 a7 a8 a9 a10 a11 a12 a13 a14 a15) t⟩
  | 3 => ⟨fun t v => N16.rec (motive := fun _ => N16 α) (fun a0 a1 a2 a3 a4 a5 a6 a7 a8 a9 a10 a11 a12 a13 a14 a15 => N16.mk a0 a1 a2 v a4 a5 a6 a7 a8 a9 a10 a11 a12 a13 a14 a15) t⟩
  | 4 => ⟨fun t v => N16.rec (motive := fun _ => N16 α) (fun a0 a1 a2 a3 a4 a5 a6 a7 a8 a9 a10 a11 a12 a13 a14 a15 => N16.mk a0 a1 a2 a3 v a5 a6 a7 a8 a9 a10 a11 a12 a13 a14 a15) t⟩
  | 5 => ⟨fun t v => N16.rec (motive := fun _ => N16 α) (fun a0 a1 a2 a3 a4 a5 a6 a7 a8 a9 a10 a11 a12 a13 a14 a15 => N16.mk a0 a1 a2 a3 a4 v a6 a7 a8 a9 a10 a11 a12 a13 a14 a15) t⟩
  | 6 => ⟨fun t v => N16.rec (motive := fun _ => N16 α) (fun a0 a1 a2 a3 a4 a5 a6 a7 a8 a9 a10 a11 a12 a13 a14 a15 => N16.mk a0 a1 a2 a3 a4 a5 v a7 a8 a9 a10 a11 a12 a13 a14 a15) t⟩
  | 7 => ⟨fun t v => N16.rec (motive := fun _ => N16 α) (fun a0 a1 a2 a3 a4 a5 a6 a7 a8 a9 a10 a11 a12 a13 a14 a15 => N16.mk a0 a1 a2 a3 a4 a5 a6 v a8 a9 a10 a11 a12 a13 a14 a15) t⟩
  | 8 => ⟨fun t v => N16.rec (motive := fun _ => N16 α) (fun a0 a1 a2 a3 a4 a5 a6 a7 a8 a9 a10 a11 a12 a13 a14 a15 => N16.mk a0 a1 a2 a3 a4 a5 a6 a7 v a9 a10 a11 a12 a13 a14 a15) t⟩
  | 9 => ⟨fun t v => N16.rec (motive := fun _ => N16 α) (fun a0 a1 a2 a3 a4 a5 a6 a7 a8 a9 a10 a11 a12 a13 a14 a15 => N16.mk a0 a1 a2 a3 a4 a5 a6 a7 a8 v a10 a11 a12 a13 a14 a15) t⟩
  | 10 => ⟨fun t v => N16.rec (motive := fun _ => N16 α) (fun a0 a1 a2 a3 a4 a5 a6 a7 a8 a9 a10 a11 a12 a13 a14 a15 => N16.mk a0 a1 a2 a3 a4 a5 a6 a7 a8 a9 v a11 a12 a13 a14 a15) t⟩
  | 11 => ⟨fun t v => N16.rec (motive := fun _ => N16 α) (fun a0 a1 a2 a3 a4 a5 a6 a7 a8 a9 a10 a11 a12 a13 a14 a15 => N16.mk a0 a1 a2 a3 a4 a5 a6 a7 a8 a9 a10 v a12 a13 a14 a15) t⟩
  | 12 => ⟨fun t v => N16.rec (motive := fun _ => N16 α) (fun a0 a1 a2 a3 a4 a5 a6 a7 a8 a9 a10 a11 a12 a13 a14 a15 => N16.mk a0 a1 a2 a3 a4 a5 a6 a7 a8 a9 a10 a11 v a13 a14 a15) t⟩
  | 13 => ⟨fun t v => N16.rec (motive := fun _ => N16 α) (fun a0 a1 a2 a3 a4 a5 a6 a7 a8 a9 a10 a11 a12 a13 a14 a15 => N16.mk a0 a1 a2 a3 a4 a5 a6 a7 a8 a9 a10 a11 a12 v a14 a15) t⟩
  | 14 => ⟨fun t v => N16.rec (motive := fun _ => N16 α) (fun a0 a1 a2 a3 a4 a5 a6 a7 a8 a9 a10 a11 a12 a13 a14 a15 => N16.mk a0 a1 a2 a3 a4 a5 a6 a7 a8 a9 a10 a11 a12 a13 v a15) t⟩
  | _ => ⟨fun t v => N16.rec (motive := fun _ => N16 α) (fun a0 a1 a2 a3 a4 a5 a6 a7 a8 a9 a10 a11 a12 a13 a14 a15 => N16.mk a0 a1 a2 a3 a4 a5 a6 a7 a8 a9 a10 a11 a12 a13 a14 v) t⟩
end
theorem lt16 {P : Nat → Prop} (h0 : P 0) (h1 : P 1) (h2 : P 2) (h3 : P 3) (h4 : P 4) (h5 : P 5) (h6 : P 6) (h7 : P 7) (h8 : P 8) (h9 : P 9) (h10 : P 10) (h11 : P 11) (h12 : P 12) (h13 : P 13) (h14 : P 14) (h15 : P 15) : ∀ i, i < 16 → P i
  | 0, _ => h0
  | 1, _ => h1
  | 2, _ => h2
  | 3, _ => h3
  | 4, _ => h4
  | 5, _ => h5
  | 6, _ => h6
  | 7, _ => h7
  | 8, _ => h8
  | 9, _ => h9
  | 10, _ => h10
  | 11, _ => h11
  | 12, _ => h12
  | 13, _ => h13
  | 14, _ => h14
  | 15, _ => h15
  | n + 16, h => absurd h (by omega)
theorem gs0 {α : Type} (t : N16 α) (v : α) : ∀ i, i < 16 → (get16 α i).f ((set16 α 0).f t v) = if i = 0 then v else (get16 α i).f t := lt16 rfl rfl rfl rfl rfl rfl rfl rfl rfl rfl rfl rfl rfl rfl rfl rfl
theorem gs1 {α : Type} (t : N16 α) (v : α) : ∀ i, i < 16 → (get16 α i).f ((set16 α 1).f t v) = if i = 1 then v else (get16 α i).f t := lt16 rfl rfl rfl rfl rfl rfl rfl rfl rfl rfl rfl rfl rfl rfl rfl rfl
theorem gs2 {α : Type} (t : N16 α) (v : α) : ∀ i, i < 16 → (get16 α i).f ((set16 α 2).f t v) = if i = 2 then v else (get16 α i).f t := lt16 rfl rfl rfl rfl rfl rfl rfl rfl rfl rfl rfl rfl rfl rfl rfl rfl
theorem gs3 {α : Type} (t : N16 α) (v : α) : ∀ i, i < 16 → (get16 α i).f ((set16 α 3).f t v) = if i = 3 then v else (get16 α i).f t := lt16 rfl rfl rfl rfl rfl rfl rfl rfl rfl rfl rfl rfl rfl rfl rfl rfl
theorem gs4 {α : Type} (t : N16 α) (v : α) : ∀ i, i < 16 → (get16 α i).f ((set16 α 4).f t v) = if i = 4 then v else (get16 α i).f t := lt16 rfl rfl rfl rfl rfl rfl rfl rfl rfl rfl rfl rfl rfl rfl rfl rfl
theorem gs5 {α : Type} (t : N16 α) (v : α) : ∀ i, i < 16 → (get16 α i).f ((set16 α 5).f t v) = if i = 5 then v else (get16 α i).f t := lt16 rfl rfl rfl rfl rfl rfl rfl rfl rfl rfl rfl rfl rfl rfl rfl rfl
theorem gs6 {α : Type} (t : N16 α) (v : α) : ∀ i, i < 16 → (get16 α i).f ((set16 α 6).f t v) = if i = 6 then v else (get16 α i).f t := lt16 rfl rfl rfl rfl rfl rfl rfl rfl rfl rfl rfl rfl rfl rfl rfl rfl
theorem gs7 {α : Type} (t : N16 α) (v : α) : ∀ i, i < 16 → (get16 α i).f ((set16 α 7).f t v) = if i = 7 then v else (get16 α i).f t := lt16 rfl rfl rfl rfl rfl rfl rfl rfl rfl rfl rfl rfl rfl rfl rfl rfl
theorem gs8 {α : Type} (t : N16 α) (v : α) : ∀ i, i < 16 → (get16 α i).f ((set16 α 8).f t v) = if i = 8 then v else (get16 α i).f t := lt16 rfl rfl rfl rfl rfl rfl rfl rfl rfl rfl rfl rfl rfl rfl rfl rfl
theorem gs9 {α : Type} (t : N16 α) (v : α) : ∀ i, i < 16 → (get16 α i).f ((set16 α 9).f t v) = if i = 9 then v else (get16 α i).f t := lt16 rfl rfl rfl rfl rfl rfl rfl rfl rfl rfl rfl rfl rfl rfl rfl rfl
theorem gs10 {α : Type} (t : N16 α) (v : α) : ∀ i, i < 16 → (get16 α i).f ((set16 α 10).f t v) = if i = 10 then v else (get16 α i).f t := lt16 rfl rfl rfl rfl rfl rfl rfl rfl rfl rfl rfl rfl rfl rfl rfl rfl
theorem gs11 {α : Type} (t : N16 α) (v : α) : ∀ i, i < 16 → (get16 α i).f ((set16 α 11).f t v) = if i = 11 then v else (get16 α i).f t := lt16 rfl rfl rfl rfl rfl rfl rfl rfl rfl rfl rfl rfl rfl rfl rfl rfl
theorem gs12 {α : Type} (t : N16 α) (v : α) : ∀ i, i < 16 → (get16 α i).f ((set16 α 12).f t v) = if i = 12 then v else (get16 α i).f t := lt16 rfl rfl rfl rfl rfl rfl rfl rfl rfl rfl rfl rfl rfl rfl rfl rfl
theorem gs13 {α : Type} (t : N16 α) (v : α) : ∀ i, i < 16 → (get16 α i).f ((set16 α 13).f t v) = if i = 13 then v else (get16 α i).f t := lt16 rfl rfl rfl rfl rfl rfl rfl rfl rfl rfl rfl rfl rfl rfl rfl rfl
theorem gs14 {α : Type} (t : N16 α) (v : α) : ∀ i, i < 16 → (get16 α i).f ((set16 α 14).f t v) = if i = 14 then v else (get16 α i).f t := lt16 rfl rfl rfl rfl rfl rfl rfl rfl rfl rfl rfl rfl rfl rfl rfl rfl
theorem gs15 {α : Type} (t : N16 α) (v : α) : ∀ i, i < 16 → (get16 α i).f ((set16 α 15).f t v) = if i = 15 then v else (get16 α i).f t := lt16 rfl rfl rfl rfl rfl rfl rfl rfl rfl rfl rfl rfl rfl rfl rfl rfl
theorem get_set16 {α : Type} (i j : Nat) (hi : i < 16) (hj : j < 16) (t : N16 α) (v : α) : (get16 α i).f ((set16 α j).f t v) = if i = j then v else (get16 α i).f t :=
  lt16 (P := fun j => (get16 α i).f ((set16 α j).f t v) = if i = j then v else (get16 α i).f t) (gs0 t v i hi) (gs1 t v i hi) (gs2 t v i hi) (gs3 t v i hi) (gs4 t v i hi) (gs5 t v i hi) (gs6 t v i hi) (gs7 t v i hi) (gs8 t v i hi) (gs9 t v i hi) (gs10 t v i hi) (gs11 t v i hi) (gs12 t v i hi) (gs13 t v i hi) (gs14 t v i hi) (gs15 t v i hi) j hj
abbrev TT := N16 (N16 AV)
def getT (i : Nat) (t : TT) : AV := (get16 AV (i % 16)).f ((get16 (N16 AV) (i / 16)).f t)
noncomputable def setT (i : Nat) (t : TT) (v : AV) : TT := (set16 (N16 AV) (i / 16)).f t ((set16 AV (i % 16)).f ((get16 (N16 AV) (i / 16)).f t) v)
theorem get_setT (i j : Nat) (hi : i < 256) (hj : j < 256) (t : TT) (v : AV) : getT i (setT j t v) = if i = j then v else getT i t := by
  unfold getT setT
  rw [get_set16 _ _ (by omega) (by omega)]
  by_cases h : i / 16 = j / 16
  · rw [if_pos h, get_set16 _ _ (by omega) (by omega), h]
    by_cases k : i % 16 = j % 16
    · rw [if_pos k, if_pos (by omega)]
    · rw [if_neg k, if_neg (by omega)]
  · rw [if_neg h, if_neg (by omega)]
def toL (n : Nat) (t : TT) : List AV := (List.range n).map fun i => getT i t
theorem toL_length (n : Nat) (t : TT) : (toL n t).length = n := by simp [toL]
theorem toL_get (n : Nat) (t : TT) (i : Nat) : (toL n t)[i]? = if i < n then some (getT i t) else none := by
  unfold toL
  rw [List.getElem?_map]
  by_cases h : i < n
  · rw [if_pos h, List.getElem?_range h]; rfl
  · rw [if_neg h, List.getElem?_eq_none (by simpa using h)]; rfl
theorem toL_getD (n : Nat) (t : TT) (i : Nat) : (toL n t).getD i undefA = if i < n then getT i t else undefA := by
  rw [List.getD_eq_getElem?_getD, toL_get]
  split <;> rfl
theorem toL_set (n : Nat) (hn : n ≤ 256) (t : TT) (i : Nat) (hi : i < n) (v : AV) : (toL n t).set i v = toL n (setT i t v) := by
  apply List.ext_getElem?
  intro j
  rw [List.getElem?_set, toL_length, toL_get, toL_get]
  by_cases hj : j < n
  · rw [if_pos hj, if_pos hj, get_setT _ _ (by omega) (by omega)]
    by_cases h : i = j
    · subst h; simp [hi]
    · rw [if_neg h, if_neg (Ne.symm h)]
  · rw [if_neg hj, if_neg hj, if_neg (by omega)]
theorem toL_set_out (n : Nat) (t : TT) (i : Nat) (hi : ¬ i < n) (v : AV) : (toL n t).set i v = toL n t :=
  List.set_eq_of_length_le (by rw [toL_length]; omega)
def zero16 {α : Type} (a : α) : N16 α := ⟨a, a, a, a, a, a, a, a, a, a, a, a, a, a, a, a⟩
def zeroT : TT := zero16 (zero16 undefA)
noncomputable def ofA (i : Nat) (t : TT) : List AV → TT
  | [] => t
  | a :: as => ofA (i + 1) (setT i t a) as
theorem get_zeroT (i : Nat) (hi : i < 256) : getT i zeroT = undefA := by
  have h : ∀ (α : Type) (a : α) (k : Nat), k < 16 → (get16 α k).f (zero16 a) = a := by
    intro α a k hk
    exact lt16 (P := fun k => (get16 α k).f (zero16 a) = a) rfl rfl rfl rfl rfl rfl rfl rfl rfl rfl rfl rfl rfl rfl rfl rfl k hk
  unfold getT zeroT
  rw [h _ _ _ (by omega), h _ _ _ (by omega)]
theorem get_ofA (as : List AV) : ∀ (i : Nat) (t : TT) (j : Nat), i + as.length ≤ 256 → j < 256 → getT j (ofA i t as) = if i ≤ j ∧ j < i + as.length then as.getD (j - i) undefA else getT j t := by
  induction as with
  | nil => intro i t j h hj; rw [if_neg (by simp only [List.length_nil]; omega)]; rfl
  | cons a as ih =>
    intro i t j h hj
    simp only [List.length_cons] at h ⊢
    show getT j (ofA (i + 1) (setT i t a) as) = _
    rw [ih _ _ _ (by omega) hj]
    by_cases h1 : i + 1 ≤ j ∧ j < i + 1 + as.length
    · rw [if_pos h1, if_pos (by omega)]
      obtain ⟨k, rfl⟩ : ∃ k, j = i + 1 + k := ⟨j - (i + 1), by omega⟩
      have e1 : i + 1 + k - (i + 1) = k := by omega
      have e2 : i + 1 + k - i = k + 1 := by omega
      rw [e1, e2]; rfl
    · rw [if_neg h1, get_setT _ _ hj (by omega)]
      by_cases h2 : j = i
      · subst h2; rw [if_pos rfl, if_pos (by omega)]; simp
      · rw [if_neg h2, if_neg (by omega)]
theorem toL_ofA (n : Nat) (hn : n ≤ 256) (as : List AV) (h : as.length ≤ n) : toL n (ofA 0 zeroT as) = as ++ List.replicate (n - as.length) undefA := by
  apply List.ext_getElem?
  intro j
  rw [toL_get, List.getElem?_append, List.getElem?_replicate]
  by_cases hj : j < n
  · rw [if_pos hj, get_ofA _ _ _ _ (by omega) (by omega)]
    by_cases h2 : j < as.length
    · rw [if_pos (by omega), if_pos h2]; simp [h2]
    · rw [if_neg (by omega), if_neg h2, if_pos (by omega), get_zeroT _ (by omega)]
  · rw [if_neg hj, if_neg (by omega), if_neg (by omega)]
theorem toL_ofL (as : List AV) (h : as.length ≤ 256) : toL as.length (ofA 0 zeroT as) = as := by
  rw [toL_ofA _ h _ (by omega)]; simp
end Go.PI
/- A RUN THAT ENDS WITH LESS ENDS THE SAME WITH MORE. -/
namespace Go.PI
def Ih.Le (a b : Ih) : Prop := ∀ rd c s r, a rd c s = some r → b rd c s = some r
variable {C : Ctx} {a b : Ih}
theorem callB_mono (h : Ih.Le a b) {f : FuncId} {args : List AV} {H : Heap} {r : AV × Heap} (e : callB C a f args H = some r) : callB C b f args H = some r := by
  unfold callB at e ⊢
  cases hf : C.fn f with
  | none => simp only [hf] at e ⊢; exact e
  | some fi =>
    simp only [hf] at e ⊢
    cases hi : a none fi.body ⟨args ++ List.replicate (fi.ntmps - args.length) undefA, H, []⟩ with
    | none => rw [hi] at e; cases e
    | some x => rw [hi] at e; rw [h _ _ _ _ hi]; exact e
theorem callF_mono (h : Ih.Le a b) {f : FuncId} {args : List AV} {H : Heap} {r : AV × Heap} (e : callF C a f args H = some r) : callF C b f args H = some r := by
  unfold callF at e ⊢
  split at e
  · exact e
  · exact callB_mono h e
theorem yieldF_mono (h : Ih.Le a b) {l : Nat} {args : List AV} {H : Heap} {r : AV × Heap} (e : yieldF a l args H = some r) : yieldF b l args H = some r := by
  unfold yieldF at e ⊢
  cases hl : H.get l with
  | loop L =>
    simp only [hl] at e ⊢
    by_cases hc : args.length = L.params.size ∧ L.state = .ready
    · rw [if_pos hc] at e ⊢
      cases h1 : a (some l) L.assign ⟨foldPar L.tmps L.params.toList args, H, []⟩ with
      | none => rw [h1] at e; cases e
      | some x =>
        rw [h1] at e; rw [h _ _ _ _ h1]
        obtain ⟨x1, T1, H1, D1⟩ := x
        cases x1 <;> cases D1 <;> simp only at e ⊢ <;> try (cases e; done)
        cases h2 : H1.get l with
        | loop L1 =>
          simp only [h2] at e ⊢
          by_cases hs : L1.state = .ready
          · rw [if_pos hs] at e ⊢
            cases h3 : a (some l) L.body ⟨T1, H1.set l (.loop { L1 with state := .busy }), []⟩ with
            | none => rw [h3] at e; cases e
            | some y => rw [h3] at e; rw [h _ _ _ _ h3]; exact e
          · rw [if_neg hs] at e; cases e
        | dead => simp only [h2] at e; cases e
        | cells => simp only [h2] at e; cases e
        | dfr => simp only [h2] at e; cases e
        | map => simp only [h2] at e; cases e
        | smap => simp only [h2] at e; cases e
        | siter => simp only [h2] at e; cases e
    · rw [if_neg hc] at e; cases e
  | dead => simp only [hl] at e; cases e
  | cells => simp only [hl] at e; cases e
  | dfr => simp only [hl] at e; cases e
  | map => simp only [hl] at e; cases e
  | smap => simp only [hl] at e; cases e
  | siter => simp only [hl] at e; cases e
theorem effE_mono (h : Ih.Le a b) {ρ : Operand → Option AV} {op : Op} {H : Heap} {r : AV × Heap} (e : effE C a ρ op H = some r) : effE C b ρ op H = some r := by
  unfold effE at e ⊢
  split at e
  all_goals first
    | exact e
    | (cases e; done)
    | (split at e
       · rename_i h1 h2
         exact callF_mono h e
       · rename_i h1 h2
         exact yieldF_mono h e
       · cases e)
theorem execE_mono (h : Ih.Le a b) {T : List AV} {o : Oper} {H : Heap} {r : AV × Heap} (e : execE C a T o H = some r) : execE C b T o H = some r := by
  unfold execE at e ⊢
  cases hk : kindOf C o.op with
  | eff => simp only [hk] at e ⊢; exact effE_mono h e
  | pure => simp only [hk] at e ⊢; exact e
  | load => simp only [hk] at e ⊢; exact e
  | look => simp only [hk] at e ⊢; exact e
  | alloc => simp only [hk] at e ⊢; exact e
end Go.PI
/- THE INTERPRETER OVER TREES. -/
namespace Go.PI
structure QT where
  t : TT
  H : Heap
  D : List Nat
abbrev IhQ := Nat → Option Nat → Code → QT → Option (Ex × QT)
def QT.st (n : Nat) (q : QT) : St := ⟨toL n q.t, q.H, q.D⟩
def Sim (ih : IhQ) (ihS : Ih) : Prop := ∀ n, n ≤ 256 → ∀ rd c q e q', ih n rd c q = some (e, q') → ihS rd c (q.st n) = some (e, q'.st n)
noncomputable def slowQ (ih : IhQ) : Ih := fun rd c s =>
  if s.T.length ≤ 256 then
    match ih s.T.length rd c ⟨ofA 0 zeroT s.T, s.H, s.D⟩ with
    | some (e, q) => some (e, q.st s.T.length)
    | none => none
  else none
theorem slow_le {ih : IhQ} {ihS : Ih} (h : Sim ih ihS) : Ih.Le (slowQ ih) ihS := by
  intro rd c s r e
  unfold slowQ at e
  split at e
  · rename_i hl
    split at e
    · rename_i x q hq
      cases e
      have := h _ hl _ _ _ _ _ hq
      rw [← this]
      unfold QT.st
      rw [toL_ofL _ hl]
    · cases e
  · cases e
structure OQ where
  f : TT → Option AV
def qO (n : Nat) : Operand → OQ
  | .tmp t => if t < n then ⟨fun T => some ((get16 AV (t % 16)).f ((get16 (N16 AV) (t / 16)).f T))⟩ else ⟨fun _ => some undefA⟩
  | .const v => ⟨fun _ => ofConst v⟩
  | .global _ => ⟨fun _ => none⟩
  | .func g => ⟨fun _ => some (.fn g [] [])⟩
theorem qO_eq (n : Nat) (x : Operand) (T : TT) : (qO n x).f T = opd (toL n T) x := by
  cases x with
  | tmp t =>
    simp only [qO, opd, toL_getD]
    by_cases h : t < n
    · rw [if_pos h, if_pos h]; rfl
    · rw [if_neg h, if_neg h]
  | _ => rfl
structure LQ where
  f : TT → Option (List AV)
def qL (n : Nat) : List Operand → LQ
  | [] => ⟨fun _ => some []⟩
  | x :: xs => ⟨fun T => match (qO n x).f T, (qL n xs).f T with
    | some a, some as => some (a :: as)
    | _, _ => none⟩
theorem qL_eq (n : Nat) (xs : List Operand) (T : TT) : (qL n xs).f T = opds (opd (toL n T)) xs := by
  induction xs with
  | nil => rfl
  | cons x xs ih => simp only [qL, opds, qO_eq, ih]; cases opd (toL n T) x <;> cases opds (opd (toL n T)) xs <;> rfl
noncomputable def resultsQ (C : Ctx) (n : Nat) (t : TT) (H : Heap) : List ResultVar → Option (List AV)
  | [] => some []
  | .tmp a :: r => match resultsQ C n t H r with
    | some vs => match (qO n (.tmp a)).f t with
      | some v => some (v :: vs)
      | none => none
    | none => none
  | .cell a ty :: r => match (qO n (.tmp a)).f t with
    | some p => match loadE C ty p H, resultsQ C n t H r with
      | some v, some vs => some (v :: vs)
      | _, _ => none
    | none => none
theorem resultsQ_eq (C : Ctx) (n : Nat) (t : TT) (H : Heap) (rs : List ResultVar) : resultsQ C n t H rs = resultsE C (toL n t) H rs := by
  induction rs with
  | nil => rfl
  | cons r rs ih =>
    cases r with
    | tmp a => simp only [resultsQ, resultsE, ih, qO_eq, opd]; cases resultsE C (toL n t) H rs <;> rfl
    | cell a ty => simp only [resultsQ, resultsE, ih, qO_eq, opd]; cases loadE C ty _ H <;> cases resultsE C (toL n t) H rs <;> rfl
def retQ (r : Option (List AV)) (H : Heap) : Option (AV × Heap) :=
  match r with
  | some [v] => some (v, H)
  | some vs => some (.tup vs, H)
  | none => none
noncomputable def callK (C : Ctx) (ih : IhQ) (g : FuncId) (as : List AV) (H : Heap) : Option (AV × Heap) :=
  match C.fn g with
  | none => callB C (fun _ _ _ => none) g as H
  | some fi =>
    if as.length ≤ fi.ntmps ∧ fi.ntmps ≤ 256 then
      match ih fi.ntmps none fi.body ⟨ofA 0 zeroT as, H, []⟩ with
      | some (.normal, s) => match shutMarks s.D s.H with
        | some H' => retQ (resultsQ C fi.ntmps s.t H' fi.results) H'
        | none => none
      | some (.ret, s) => match shutMarks s.D s.H with
        | some H' => retQ (resultsQ C fi.ntmps s.t H' fi.results) H'
        | none => none
      | _ => none
    else none
theorem callK_sim {C : Ctx} {ih : IhQ} {ihS : Ih} (h : Sim ih ihS) {g : FuncId} {as : List AV} {H : Heap} {r : AV × Heap} (e : callK C ih g as H = some r) : callB C ihS g as H = some r := by
  unfold callK at e
  cases hf : C.fn g with
  | none =>
    simp only [hf] at e
    exact callB_mono (a := fun _ _ _ => none) (fun _ _ _ _ x => by cases x) e
  | some fi =>
    simp only [hf] at e
    split at e
    · rename_i hl
      unfold callB
      simp only [hf]
      cases hi : ih fi.ntmps none fi.body ⟨ofA 0 zeroT as, H, []⟩ with
      | none => rw [hi] at e; cases e
      | some x =>
        obtain ⟨x, q⟩ := x
        have hs := h _ hl.2 _ _ _ _ _ hi
        unfold QT.st at hs
        rw [toL_ofA _ hl.2 _ hl.1] at hs
        rw [hs]
        rw [hi] at e
        cases x <;> simp only [resultsQ_eq] at e ⊢ <;> first | (cases e; done) | skip
        all_goals
          cases hm : shutMarks q.D q.H with
          | none => rw [hm] at e; cases e
          | some H' => rw [hm] at e; exact e
    · cases e
noncomputable def callQ (C : Ctx) (ih : IhQ) (g : FuncId) (as : List AV) (H : Heap) : Option (AV × Heap) :=
  match sumE C g as H with
  | some r => some r
  | none => callK C ih g as H
theorem callQ_sim {C : Ctx} {ih : IhQ} {ihS : Ih} (h : Sim ih ihS) {g : FuncId} {as : List AV} {H : Heap} {r : AV × Heap} (e : callQ C ih g as H = some r) : callF C ihS g as H = some r := by
  unfold callQ at e
  unfold callF
  cases hs : sumE C g as H with
  | some r' => simp only [hs] at e ⊢; exact e
  | none => simp only [hs] at e ⊢; exact callK_sim h e
structure XQ where
  f : IhQ → TT → Heap → Option (AV × Heap)
noncomputable def callQ1 (C : Ctx) (ih : IhQ) (g : FuncId) (as : Option (List AV)) (H : Heap) : Option (AV × Heap) :=
  match as with
  | some as => callQ C ih g as H
  | none => none
structure BQ where
  f : TT → Nat → Option Nat
def faOff (C : Ctx) (s : TypeId) (f : Nat) : Option Nat :=
  match C.ty s with
  | some { desc := .struct fs, .. } => match fs[f]? with
    | some fd => match C.ty fd.type with
      | some i => if i.size = 0 then none else some fd.offset
      | none => none
    | none => none
  | _ => none
def addP (off : Nat) (x : Option AV) : Option AV :=
  match x with
  | some (.ptr b o) => some (.ptr b (o + off))
  | _ => none
theorem addP_eq (C : Ctx) (s : TypeId) (f : Nat) (ρ : Operand → Option AV) (x : Operand) : (match faOff C s f with
    | some off => addP off (ρ x)
    | none => none) = pureE C ρ (.fieldAddr s x f) := by
  unfold faOff
  simp only [pureE]
  cases h : C.ty s with
  | none => rfl
  | some i =>
    obtain ⟨d, sz, by_, z⟩ := i
    cases d <;> try rfl
    rename_i fs
    simp only
    cases hf : fs[f]? with
    | none => cases ρ x with
      | none => rfl
      | some v => cases v <;> simp [hf]
    | some fd =>
      simp only
      cases hi : C.ty fd.type with
      | none => cases ρ x with
        | none => rfl
        | some v => cases v <;> simp [hf, hi]
      | some i =>
        simp only
        by_cases h0 : i.size = 0
        · simp only [if_pos h0]
          cases ρ x with
          | none => rfl
          | some v => cases v <;> simp [hf, hi, h0]
        · simp only [if_neg h0]
          cases ρ x with
          | none => rfl
          | some v => cases v <;> simp [addP, hf, hi, h0]
def execR (C : Ctx) (ih : Ih) (ρ : Operand → Option AV) (o : Op) (H : Heap) : Option (AV × Heap) :=
  match kindOf C o with
  | .pure => match pureE C ρ o with
    | some v => some (v, H)
    | none => none
  | .load => match o with
    | .load t a => match ρ a with
      | some a => match loadE C t a H with
        | some v => some (v, H)
        | none => none
      | none => none
    | _ => none
  | .alloc => if lim ≤ H.n then none else match allocE C ρ o with
    | some (b, f) => some (f H.n, H.push b)
    | none => none
  | .eff => effE C ih ρ o H
  | .look => match o with
    | .lookup t m key ok => match ρ m, ρ key with
      | some a, some b => match lookupE C t a b ok H with
        | some (v, _) => some (v, H)
        | none => none
      | _, _ => none
    | _ => none
theorem execR_eq (C : Ctx) (ih : Ih) (T : List AV) (o : Oper) (H : Heap) : execR C ih (opd T) o.op H = execE C ih T o H := rfl
def nilC (x : Option AV) : Option AV :=
  match x with
  | some (.ptr b o) => some (.ptr b o)
  | some (.fn f a b) => some (.fn f a b)
  | some (.yld l) => some (.yld l)
  | _ => none
def allocQ (C : Ctx) (e : TypeId) (H : Heap) : Option (AV × Heap) :=
  match Nat.ble lim H.n with
  | true => none
  | false => match C.ty e with
    | some i => some (.ptr H.n 0, H.push (.cells true e i.zero.cells))
    | none => none
def boxQ (C : Ctx) (e : TypeId) (x : Option AV) (H : Heap) : Option (AV × Heap) :=
  match Nat.ble lim H.n with
  | true => none
  | false => match C.ty e, x with
    | some _, some v => some (.ptr H.n 0, H.push (.cells true e v.cells))
    | _, _ => none
noncomputable def qX (C : Ctx) (n : Nat) (o : Oper) : XQ :=
  match o.op with
  | .move x => ⟨fun _ T H => withH ((qO n x).f T) H⟩
  | .assign x => ⟨fun _ T H => withH ((qO n x).f T) H⟩
  | .pick c a b => ⟨fun _ T H => withH (pickB ((qO n c).f T) ((qO n a).f T) ((qO n b).f T)) H⟩
  | .binOp op t x y _ => ⟨fun _ T H => withH (bin2 (decB C op t x y) ((qO n x).f T) ((qO n y).f T)) H⟩
  | .extract t i => ⟨fun _ T H => withH (extrB ((qO n t).f T) i) H⟩
  | .load t a => ⟨fun _ T H => load1 C t ((qO n a).f T) H⟩
  | .unOp op _ x => ⟨fun _ T H => withH (unB op ((qO n x).f T)) H⟩
  | .indexAddr t x i => ⟨fun _ T H => withH (idxB C (C.ty t) ((qO n x).f T) ((qO n i).f T)) H⟩
  | .store t a v => ⟨fun _ T H => store2 C t ((qO n a).f T) ((qO n v).f T) H⟩
  | .fieldAddr s x f => match faOff C s f with
    | some off => ⟨fun _ T H => withH (addP off ((qO n x).f T)) H⟩
    | none => ⟨fun _ _ _ => none⟩
  | .nilCheck x => ⟨fun _ T H => withH (nilC ((qO n x).f T)) H⟩
  | .alloc e => ⟨fun _ _ H => allocQ C e H⟩
  | .box e x => ⟨fun _ T H => boxQ C e ((qO n x).f T) H⟩
  | .call { callee := .value (.func g), args, argTypes := _ } => ⟨fun ih T H => callQ1 C ih g ((qL n args.toList).f T) H⟩
  | .call { callee := .builtin .len, args, argTypes } => match isMap C argTypes.toList with
    | false => ⟨fun _ T H => withH (lenX C argTypes.toList ((qL n args.toList).f T)) H⟩
    | true => ⟨fun ih T H => execR C (slowQ ih) (fun x => (qO n x).f T) o.op H⟩
  | .call { callee := .builtin .append, args, argTypes } => ⟨fun _ T H => appX C argTypes.toList ((qL n args.toList).f T) H⟩
  | .slice t x lo hi none => ⟨fun _ T H => withH (sliceX C (C.ty t) (lo.map fun l => ⟨fun _ => (qO n l).f T⟩) (hi.map fun l => ⟨fun _ => (qO n l).f T⟩) [] ((qO n x).f T)) H⟩
  | op => ⟨fun ih T H => execR C (slowQ ih) (fun x => (qO n x).f T) op H⟩
theorem qX_sim {C : Ctx} {ih : IhQ} {ihS : Ih} (hs : Sim ih ihS) {n : Nat} {o : Oper} {T : TT} {H : Heap} {r : AV × Heap} (e : (qX C n o).f ih T H = some r) : execE C ihS (toL n T) o H = some r := by
  have hold : ∀ {r0 : Option (AV × Heap)}, (decX C o).f ihS (toL n T) H = r0 → r0 = some r → execE C ihS (toL n T) o H = some r := fun h1 h2 => by rw [← decX_eq, h1, h2]
  unfold qX at e
  split at e
  case h_10 s x f h =>
    rw [← execR_eq]
    simp only [execR, h, kindOf]
    rw [← addP_eq]
    cases hf : faOff C s f with
    | none => rw [hf] at e; cases e
    | some off =>
      rw [hf] at e
      simp only [qO_eq] at e
      simp only
      cases ha : addP off (opd (toL n T) x) with
      | none => rw [ha] at e; cases e
      | some v => rw [ha] at e; exact e
  case h_11 x h =>
    rw [← execR_eq]
    simp only [qO_eq] at e
    simp only [execR, h, kindOf, pureE]
    unfold nilC withH at e
    split at e
    · rename_i v hv
      rw [← e]
      split at hv <;> cases hv <;> simp_all
    · cases e
  case h_12 el h =>
    rw [← execR_eq]
    simp only [execR, h, kindOf, allocE]
    simp only [allocQ] at e
    cases hb : Nat.ble lim H.n with
    | true => rw [hb] at e; cases e
    | false =>
      rw [hb] at e
      have hl : ¬ lim ≤ H.n := fun hh => by rw [Nat.ble_eq_true_of_le hh] at hb; cases hb
      rw [if_neg hl]
      cases ht : C.ty el with
      | none => rw [ht] at e; cases e
      | some i => rw [ht] at e; exact e
  case h_13 el x h =>
    rw [← execR_eq]
    simp only [qO_eq] at e
    simp only [execR, h, kindOf, allocE]
    simp only [boxQ] at e
    cases hb : Nat.ble lim H.n with
    | true => rw [hb] at e; cases e
    | false =>
      rw [hb] at e
      have hl : ¬ lim ≤ H.n := fun hh => by rw [Nat.ble_eq_true_of_le hh] at hb; cases hb
      rw [if_neg hl]
      cases ht : C.ty el with
      | none => rw [ht] at e; cases e
      | some i =>
        rw [ht] at e
        cases hx : opd (toL n T) x with
        | none => rw [hx] at e; cases e
        | some v => rw [hx] at e; exact e
  case h_14 g args ts h =>
    refine hold rfl ?_
    unfold decX
    simp only [h, decL_eq]
    simp only [qL_eq] at e
    cases ha : opds (opd (toL n T)) args.toList with
    | none => rw [ha] at e; cases e
    | some as => rw [ha] at e; exact callQ_sim hs e
  case h_15 args ts h =>
    cases hm : isMap C ts.toList with
    | false =>
      simp only [hm] at e
      refine hold rfl ?_
      unfold decX
      simp only [h, hm, decL_eq]
      simp only [qL_eq] at e
      exact e
    | true =>
      simp only [hm] at e
      have hρ : (fun x => (qO n x).f T) = opd (toL n T) := funext fun x => qO_eq n x T
      simp only [hρ] at e
      rw [execR_eq] at e
      exact execE_mono (slow_le hs) e
  case h_17 t x lo hi h =>
    refine hold rfl ?_
    unfold decX
    simp only [h, decO_eq]
    simp only [qO_eq] at e
    rw [← e]
    cases lo <;> cases hi <;> simp only [Option.map, sliceX, decO_eq]
  case h_18 =>
    have hρ : (fun x => (qO n x).f T) = opd (toL n T) := funext fun x => qO_eq n x T
    simp only [hρ] at e
    rw [execR_eq] at e
    exact execE_mono (slow_le hs) e
  all_goals
    rename_i h
    refine hold rfl ?_
    unfold decX
    simp only [h, decO_eq, decL_eq]
    simp only [qO_eq, qL_eq] at e
    exact e
structure YQ where
  f : TT → Option Bool
def isB (v : AV) : Option Bool :=
  match v with
  | .bool b => some b
  | _ => none
def ayQ (n : Nat) (ops : List Oper) (j : Nat) : YQ :=
  match ops[j]? with
  | some o => match o.dst with
    | some d => if d < n then ⟨fun T => isB (getT d T)⟩ else ⟨fun _ => none⟩
    | none => ⟨fun _ => none⟩
  | none => ⟨fun _ => none⟩
theorem ayQ_eq (n : Nat) (ops : List Oper) (T : TT) (j : Nat) : (ayQ n ops j).f T = ayielded ops (toL n T) j := by
  unfold ayQ ayielded
  cases ops[j]? with
  | none => rfl
  | some o =>
    simp only
    cases o.dst with
    | none => rfl
    | some d =>
      simp only [toL_get]
      by_cases h : d < n
      · rw [if_pos h, if_pos h]; cases hv : getT d T <;> simp [isB, hv]
      · rw [if_neg h, if_neg h]
structure PQ where
  f : TT → AV → TT
noncomputable def putQ (n : Nat) (dst : Option Tmp) : PQ :=
  match dst with
  | some d => if d < n then ⟨fun T v => setT d T v⟩ else ⟨fun T _ => T⟩
  | none => ⟨fun T _ => T⟩
theorem putQ_eq (n : Nat) (hn : n ≤ 256) (dst : Option Tmp) (T : TT) (v : AV) : putT (toL n T) dst v = toL n ((putQ n dst).f T v) := by
  unfold putQ putT
  cases dst with
  | none => rfl
  | some d =>
    simp only
    by_cases h : d < n
    · rw [if_pos h, toL_set n hn T d h]
    · rw [if_neg h, toL_set_out n T d h]
structure SQ where
  f : IhQ → TT → Heap → Option (TT × Heap)
noncomputable def afterQ (n : Nat) (dst : Option Tmp) (T : TT) (r : Option (AV × Heap)) : Option (TT × Heap) :=
  match r with
  | some (v, H') => some ((putQ n dst).f T v, H')
  | none => none
noncomputable def qS (C : Ctx) (n : Nat) (ops : List Oper) (o : Oper) : SQ :=
  match o.guard with
  | none => ⟨fun ih T H => afterQ n o.dst T ((qX C n o).f ih T H)⟩
  | some _ => ⟨fun ih T H => cond (Region.wanted o (fun j => (ayQ n ops j).f T)) (afterQ n o.dst T ((qX C n o).f ih T H)) (some ((putQ n o.dst).f T undefA, H))⟩
theorem qS_sim {C : Ctx} {ih : IhQ} {ihS : Ih} (hs : Sim ih ihS) {n : Nat} (hn : n ≤ 256) {ops : List Oper} {o : Oper} {T T' : TT} {H H' : Heap} (e : (qS C n ops o).f ih T H = some (T', H')) : stepE C ihS ops o (toL n T) H = some (toL n T', H') := by
  have hx : ∀ T' H', afterQ n o.dst T ((qX C n o).f ih T H) = some (T', H') → (match execE C ihS (toL n T) o H with
    | some (v, H') => some (putT (toL n T) o.dst v, H')
    | none => none) = some (toL n T', H') := by
    intro T' H' e
    unfold afterQ at e
    cases hq : (qX C n o).f ih T H with
    | none => rw [hq] at e; cases e
    | some p =>
      rw [hq] at e
      rw [qX_sim hs hq]
      cases e
      simp only [putQ_eq n hn]
  unfold qS at e
  unfold stepE
  split at e
  · rename_i h
    have : Region.wanted o (ayielded ops (toL n T)) = true := by simp [Region.wanted, h]
    rw [if_pos this]
    exact hx _ _ e
  · have hy : (fun j => (ayQ n ops j).f T) = ayielded ops (toL n T) := funext (ayQ_eq n ops T)
    simp only [hy] at e
    cases hw : Region.wanted o (ayielded ops (toL n T)) with
    | true => rw [hw] at e; rw [if_pos rfl]; exact hx _ _ e
    | false =>
      rw [hw] at e
      cases e
      simp [putQ_eq n hn]
noncomputable def qR (C : Ctx) (n : Nat) (ops : List Oper) : List Oper → SQ
  | [] => ⟨fun _ T H => some (T, H)⟩
  | o :: rest => ⟨fun ih T H => match (qS C n ops o).f ih T H with
    | some (T', H') => (qR C n ops rest).f ih T' H'
    | none => none⟩
theorem qR_sim {C : Ctx} {ih : IhQ} {ihS : Ih} (hs : Sim ih ihS) {n : Nat} (hn : n ≤ 256) {ops os : List Oper} : ∀ {T T' : TT} {H H' : Heap}, (qR C n ops os).f ih T H = some (T', H') → runE C ihS ops os (toL n T) H = some (toL n T', H') := by
  induction os with
  | nil => intro T T' H H' e; cases e; rfl
  | cons o rest ihh =>
    intro T T' H H' e
    simp only [qR] at e
    cases hq : (qS C n ops o).f ih T H with
    | none => rw [hq] at e; cases e
    | some p =>
      rw [hq] at e
      simp only [runE, qS_sim hs hn hq]
      exact ihh e
structure TQ where
  f : IhQ → TT → Heap → Option (List (TT × Heap))
noncomputable def qT (C : Ctx) (n : Nat) (ops : List Oper) : List Oper → TQ
  | [] => ⟨fun _ T H => some [(T, H)]⟩
  | o :: rest => ⟨fun ih T H => match (qS C n ops o).f ih T H with
    | some (T', H') => match (qT C n ops rest).f ih T' H' with
      | some tr => some ((T, H) :: tr)
      | none => none
    | none => none⟩
def asL (n : Nat) (p : TT × Heap) : List AV × Heap := (toL n p.1, p.2)
theorem qT_sim {C : Ctx} {ih : IhQ} {ihS : Ih} (hs : Sim ih ihS) {n : Nat} (hn : n ≤ 256) {ops os : List Oper} : ∀ {T : TT} {H : Heap} {tr : List (TT × Heap)}, (qT C n ops os).f ih T H = some tr → traceE C ihS ops os (toL n T) H = some (tr.map (asL n)) := by
  induction os with
  | nil => intro T H tr e; cases e; rfl
  | cons o rest ihh =>
    intro T H tr e
    simp only [qT] at e
    cases hq : (qS C n ops o).f ih T H with
    | none => rw [hq] at e; cases e
    | some p =>
      rw [hq] at e
      simp only at e
      cases hr : (qT C n ops rest).f ih p.1 p.2 with
      | none => rw [hr] at e; cases e
      | some tr' =>
        rw [hr] at e
        cases e
        simp only [traceE, qS_sim hs hn hq, ihh hr]
        rfl
end Go.PI
/- THE CHECK OF A REGION WHOSE ORDER IS OPEN, what is static of it computed once. -/
namespace Go.PI
def posL (C : Ctx) (ops : List Oper) (pre : List Nat) (i : Nat) : Nat → Nat → List Nat
  | _, 0 => []
  | p, k + 1 => match isBd C ops p && mayAt C ops pre i p ops 0 with
    | true => p :: posL C ops pre i (p + 1) k
    | false => posL C ops pre i (p + 1) k
def atsD (C : Ctx) (t : TypeId) (a v : AV) (all : List (TT × Heap)) : List Nat → Bool
  | [] => true
  | p :: ps => match all[p]? with
    | some x => (match loadE C t a x.2 with
      | some v' => cond (v.same v') (atsD C t a v all ps) false
      | none => false)
    | none => atsD C t a v all ps
theorem atsD_eq (C : Ctx) (n : Nat) (ops : List Oper) (pre : List Nat) (i : Nat) (t : TypeId) (a v : AV) (all : List (TT × Heap)) : ∀ (rest : List (TT × Heap)) (p : Nat), all.drop p = rest → atsD C t a v all (posL C ops pre i p rest.length) = true → loadAts C ops pre i t a v (rest.map (asL n)) p = true := by
  intro rest
  induction rest with
  | nil => intro p _ _; rfl
  | cons x rest ih =>
    intro p hp h
    have hx : all[p]? = some x := by
      have : (all.drop p)[0]? = some x := by rw [hp]; rfl
      simpa using this
    have hr : all.drop (p + 1) = rest := by
      have : (all.drop p).drop 1 = rest := by rw [hp]; rfl
      rw [List.drop_drop] at this
      exact this
    simp only [List.length_cons, posL] at h
    simp only [List.map_cons, asL, loadAts]
    cases hb : isBd C ops p && mayAt C ops pre i p ops 0 with
    | false =>
      rw [hb] at h
      simp only at h
      simp only [Bool.not_false, Bool.true_or, Bool.true_and]
      exact ih (p + 1) hr h
    | true =>
      rw [hb] at h
      simp only [atsD, hx] at h
      simp only [Bool.not_true, Bool.false_or]
      cases hl : loadE C t a x.2 with
      | none => rw [hl] at h; cases h
      | some v' =>
        rw [hl] at h
        simp only at h ⊢
        cases hs : v.same v' with
        | false => rw [hs] at h; cases h
        | true =>
          rw [hs] at h
          rw [Bool.true_and]
          exact ih (p + 1) hr h
structure LD where
  f : List (TT × Heap) → TT → Heap → Bool
def wantQ (n : Nat) (ops : List Oper) (o : Oper) (T : TT) : Bool :=
  match o.guard with
  | none => true
  | some _ => Region.wanted o (fun j => (ayQ n ops j).f T)
theorem wantQ_eq (n : Nat) (ops : List Oper) (o : Oper) (T : TT) : wantQ n ops o T = Region.wanted o (ayielded ops (toL n T)) := by
  unfold wantQ
  split
  · rename_i h; simp [Region.wanted, h]
  · have hy : (fun j => (ayQ n ops j).f T) = ayielded ops (toL n T) := funext (ayQ_eq n ops T)
    rw [hy]
def ldQ (C : Ctx) (n : Nat) (ops : List Oper) (pre : List Nat) (m : Nat) (o : Oper) (i : Nat) : LD :=
  match o.op with
  | .load t x => ⟨fun all T H => cond (wantQ n ops o T) (match (qO n x).f T with
      | some a => (match loadE C t a H with
        | some v => atsD C t a v all (posL C ops pre i 0 m)
        | none => false)
      | none => false) true⟩
  | _ => ⟨fun _ _ _ => true⟩
def loadsD (C : Ctx) (n : Nat) (ops : List Oper) (pre : List Nat) (m : Nat) (all : List (TT × Heap)) : List Oper → List (TT × Heap) → Nat → Bool
  | o :: os, x :: tr, i => cond ((ldQ C n ops pre m o i).f all x.1 x.2) (loadsD C n ops pre m all os tr (i + 1)) false
  | _, _, _ => true
theorem loadsD_eq (C : Ctx) (n : Nat) (ops : List Oper) (pre : List Nat) (all : List (TT × Heap)) : ∀ (os : List Oper) (tr : List (TT × Heap)) (i : Nat), loadsD C n ops pre all.length all os tr i = true → loadsOk C ops pre (all.map (asL n)) os (tr.map (asL n)) i = true := by
  intro os
  induction os with
  | nil => intro tr i _; cases tr <;> rfl
  | cons o os ih =>
    intro tr i h
    cases tr with
    | nil => rfl
    | cons x tr =>
      simp only [loadsD] at h
      simp only [List.map_cons, asL, loadsOk]
      cases hq : (ldQ C n ops pre all.length o i).f all x.1 x.2 with
      | false => rw [hq] at h; cases h
      | true =>
        rw [hq] at h
        rw [ih tr (i + 1) h, Bool.and_true]
        unfold ldQ at hq
        split at hq
        · rename_i t y ho
          simp only [ho]
          simp only [wantQ_eq, qO_eq] at hq
          cases hw : Region.wanted o (ayielded ops (toL n x.1)) with
          | false => simp
          | true =>
            rw [hw] at hq
            simp only [cond_true, if_true] at hq ⊢
            cases ha : opd (toL n x.1) y with
            | none => rw [ha] at hq; cases hq
            | some a =>
              rw [ha] at hq
              simp only at hq ⊢
              cases hl : loadE C t a x.2 with
              | none => rw [hl] at hq; cases hq
              | some v =>
                rw [hl] at hq
                exact atsD_eq C n ops pre i t a v all all 0 rfl hq
        · rename_i hne
          split
          · rename_i t y ho; exact absurd ho (hne t y)
          · rfl
def posA (C : Ctx) (ops : List Oper) (pre : List Nat) (i : Nat) : Nat → Nat → List Nat
  | _, 0 => []
  | p, k + 1 => match isBd C ops p && decide (i < p) && mayAt C ops pre i p ops 0 with
    | true => p :: posA C ops pre i (p + 1) k
    | false => posA C ops pre i (p + 1) k
def atsA (A : Nat) (ty : TypeId) (cs : List AV) (all : List (TT × Heap)) : List Nat → Bool
  | [] => true
  | p :: ps => match all[p]? with
    | some x => (match x.2.get A with
      | .cells true ty' cs' => cond (ty == ty' && sameLs cs cs') (atsA A ty cs all ps) false
      | _ => false)
    | none => atsA A ty cs all ps
theorem atsA_eq (C : Ctx) (n : Nat) (ops : List Oper) (pre : List Nat) (i A : Nat) (ty : TypeId) (cs : List AV) (all : List (TT × Heap)) : ∀ (rest : List (TT × Heap)) (p : Nat), all.drop p = rest → atsA A ty cs all (posA C ops pre i p rest.length) = true → allocAts C ops pre i A ty cs (rest.map (asL n)) p = true := by
  intro rest
  induction rest with
  | nil => intro p _ _; rfl
  | cons x rest ih =>
    intro p hp h
    have hx : all[p]? = some x := by
      have : (all.drop p)[0]? = some x := by rw [hp]; rfl
      simpa using this
    have hr : all.drop (p + 1) = rest := by
      have : (all.drop p).drop 1 = rest := by rw [hp]; rfl
      rw [List.drop_drop] at this
      exact this
    simp only [List.length_cons, posA] at h
    simp only [List.map_cons, asL, allocAts]
    cases hb : isBd C ops p && decide (i < p) && mayAt C ops pre i p ops 0 with
    | false =>
      rw [hb] at h
      simp only at h
      simp only [Bool.not_false, Bool.true_or, Bool.true_and]
      exact ih (p + 1) hr h
    | true =>
      rw [hb] at h
      simp only [atsA, hx] at h
      simp only [Bool.not_true, Bool.false_or]
      split at h
      · rename_i ty' cs' hg
        cases hs : (ty == ty' && sameLs cs cs') with
        | false => rw [hs] at h; cases h
        | true =>
          rw [hs] at h
          rw [hg]
          simp only [hs, Bool.true_and]
          exact ih (p + 1) hr h
      · cases h
def alQ (C : Ctx) (n : Nat) (ops : List Oper) (pre : List Nat) (m : Nat) (o : Oper) (i : Nat) : LD :=
  match kindOf C o.op with
  | .alloc => ⟨fun all T H => cond (wantQ n ops o T) (match allocE C (fun x => (qO n x).f T) o.op with
      | some (.cells true ty cs, _) => atsA H.n ty cs all (posA C ops pre i 0 m)
      | _ => false) true⟩
  | _ => ⟨fun _ _ _ => true⟩
def allocsD (C : Ctx) (n : Nat) (ops : List Oper) (pre : List Nat) (m : Nat) (all : List (TT × Heap)) : List Oper → List (TT × Heap) → Nat → Bool
  | o :: os, x :: tr, i => cond ((alQ C n ops pre m o i).f all x.1 x.2) (allocsD C n ops pre m all os tr (i + 1)) false
  | _, _, _ => true
theorem allocsD_eq (C : Ctx) (n : Nat) (ops : List Oper) (pre : List Nat) (all : List (TT × Heap)) : ∀ (os : List Oper) (tr : List (TT × Heap)) (i : Nat), allocsD C n ops pre all.length all os tr i = true → allocsOk C ops pre (all.map (asL n)) os (tr.map (asL n)) i = true := by
  intro os
  induction os with
  | nil => intro tr i _; cases tr <;> rfl
  | cons o os ih =>
    intro tr i h
    cases tr with
    | nil => rfl
    | cons x tr =>
      simp only [allocsD] at h
      simp only [List.map_cons, asL, allocsOk]
      cases hq : (alQ C n ops pre all.length o i).f all x.1 x.2 with
      | false => rw [hq] at h; cases h
      | true =>
        rw [hq] at h
        rw [ih tr (i + 1) h, Bool.and_true]
        unfold alQ at hq
        cases hk : kindOf C o.op <;> simp only [hk] at hq ⊢
        have hρ : (fun x_1 => (qO n x_1).f x.1) = opd (toL n x.1) := funext fun y => qO_eq n y x.1
        simp only [wantQ_eq, hρ] at hq
        cases hw : Region.wanted o (ayielded ops (toL n x.1)) with
        | false => simp
        | true =>
          rw [hw] at hq
          simp only [cond_true, if_true] at hq ⊢
          split at hq
          · rename_i ty cs g ha
            rw [ha]
            exact atsA_eq C n ops pre i x.2.n ty cs all all 0 rfl hq
          · cases hq
def monoD : List (TT × Heap) → Bool
  | [] => true
  | [_] => true
  | x :: y :: r => cond (Nat.ble x.2.n y.2.n) (monoD (y :: r)) false
theorem monoD_eq (n : Nat) : ∀ (tr : List (TT × Heap)), monoD tr = true → monoOk (tr.map (asL n)) = true
  | [], _ => rfl
  | [_], _ => rfl
  | x :: y :: r, h => by
    simp only [monoD] at h
    cases hb : Nat.ble x.2.n y.2.n with
    | false => rw [hb] at h; cases h
    | true =>
      rw [hb] at h
      have := monoD_eq n (y :: r) h
      simp only [List.map_cons, asL, monoOk] at this ⊢
      rw [this, decide_eq_true (Nat.le_of_ble_eq_true hb)]
      rfl
structure DQ where
  f : List (TT × Heap) → Bool
def drawD (C : Ctx) (n : Nat) (ops : List Oper) : DQ :=
  match orderOk C ops (preList ops []) ops 0 with
  | true => ⟨fun tr => cond (Nat.beq tr.length (ops.length + 1)) (cond (loadsD C n ops (preList ops []) (ops.length + 1) tr ops tr 0) (cond (allocsD C n ops (preList ops []) (ops.length + 1) tr ops tr 0) (monoD tr) false) false) false⟩
  | false => ⟨fun _ => false⟩
theorem drawD_ok {C : Ctx} {n : Nat} {ops : List Oper} {tr : List (TT × Heap)} (h : (drawD C n ops).f tr = true) : drawOk C ops (tr.map (asL n)) = true := by
  unfold drawD at h
  unfold drawOk
  cases ho : orderOk C ops (preList ops []) ops 0 with
  | false => rw [ho] at h; cases h
  | true =>
    rw [ho] at h
    simp only at h ⊢
    cases hl : Nat.beq tr.length (ops.length + 1) with
    | false => rw [hl] at h; cases h
    | true =>
      rw [hl] at h
      have hl := Nat.eq_of_beq_eq_true hl
      rw [← hl] at h
      simp only [cond_true] at h
      cases h1 : loadsD C n ops (preList ops []) tr.length tr ops tr 0 with
      | false => rw [h1] at h; cases h
      | true =>
        rw [h1] at h
        simp only [cond_true] at h
        cases h2 : allocsD C n ops (preList ops []) tr.length tr ops tr 0 with
        | false => rw [h2] at h; cases h
        | true =>
          rw [h2] at h
          rw [ho, loadsD_eq C n ops _ tr ops tr 0 h1, allocsD_eq C n ops _ tr ops tr 0 h2, monoD_eq n tr h]
          rfl
end Go.PI
