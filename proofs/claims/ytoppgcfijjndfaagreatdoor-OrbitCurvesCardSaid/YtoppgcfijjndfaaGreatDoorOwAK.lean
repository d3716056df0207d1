/- Own work of the verifier: PiDrawQ. -/
import Derived.Test.YtoppgcfijjndfaaGreatDoorOwAJ
set_option linter.all false
set_option exponentiation.threshold 3000
set_option linter.deprecated false
/- THE CHECK OF A REGION WHOSE ORDER IS OPEN, what is static of it computed once. -/
namespace Go.PI
def posL (C : Ctx) (ops : List Oper) (pre : List Nat) (i : Nat) : Nat → Nat → List Nat
  | _, 0 => []
  | p, k + 1 => match isBd C ops p && mayAt C ops pre i p ops 0 with
    | true => p :: posL C ops pre i (p + 1) k
    | false => posL C ops pre i (p + 1) k
def atsD (C : Ctx) (t : TypeId) (a v : AV) (all : List (TT × Heap)) : List Nat → Bool
  | [] => true
  | p :: ps => match all[p]? with
    | some x => (match loadE C t a x.2 with
      | some v' => cond (v.same v') (atsD C t a v all ps) false
      | none => false)
    | none => atsD C t a v all ps
theorem atsD_eq (C : Ctx) (n : Nat) (ops : List Oper) (pre : List Nat) (i : Nat) (t : TypeId) (a v : AV) (all : List (TT × Heap)) : ∀ (rest : List (TT × Heap)) (p : Nat), all.drop p = rest → atsD C t a v all (posL C ops pre i p rest.length) = true → loadAts C ops pre i t a v (rest.map (asL n)) p = true := by
  intro rest
  induction rest with
  | nil => intro p _ _; rfl
  | cons x rest ih =>
    intro p hp h
    have hx : all[p]? = some x := by
      have : (all.drop p)[0]? = some x := by rw [hp]; rfl
      simpa using this
    have hr : all.drop (p + 1) = rest := by
      have : (all.drop p).drop 1 = rest := by rw [hp]; rfl
      rw [List.drop_drop] at this
      exact this
    simp only [List.length_cons, posL] at h
    simp only [List.map_cons, asL, loadAts]
    cases hb : isBd C ops p && mayAt C ops pre i p ops 0 with
    | false =>
      rw [hb] at h
      simp only at h
      simp only [Bool.not_false, Bool.true_or, Bool.true_and]
      exact ih (p + 1) hr h
    | true =>
      rw [hb] at h
      simp only [atsD, hx] at h
      simp only [Bool.not_true, Bool.false_or]
      cases hl : loadE C t a x.2 with
      | none => rw [hl] at h; cases h
      | some v' =>
        rw [hl] at h
        simp only at h ⊢
        cases hs : v.same v' with
        | false => rw [hs] at h; cases h
        | true =>
          rw [hs] at h
          rw [Bool.true_and]
          exact ih (p + 1) hr h
structure LD where
  f : List (TT × Heap) → TT → Heap → Bool
def wantQ (n : Nat) (ops : List Oper) (o : Oper) (T : TT) : Bool :=
  match o.guard with
  | none => true
  | some _ => Region.wanted o (fun j => (ayQ n ops j).f T)
theorem wantQ_eq (n : Nat) (ops : List Oper) (o : Oper) (T : TT) : wantQ n ops o T = Region.wanted o (ayielded ops (toL n T)) := by
  unfold wantQ
  split
  · rename_i h; simp [Region.wanted, h]
  · have hy : (fun j => (ayQ n ops j).f T) = ayielded ops (toL n T) := funext (ayQ_eq n ops T)
    rw [hy]
def ldQ (C : Ctx) (n : Nat) (ops : List Oper) (pre : List Nat) (m : Nat) (o : Oper) (i : Nat) : LD :=
  match o.op with
  | .load t x => ⟨fun all T H => cond (wantQ n ops o T) (match (qO n x).f T with
      | some a => (match loadE C t a H with
        | some v => atsD C t a v all (posL C ops pre i 0 m)
        | none => false)
      | none => false) true⟩
  | _ => ⟨fun _ _ _ => true⟩
def loadsD (C : Ctx) (n : Nat) (ops : List Oper) (pre : List Nat) (m : Nat) (all : List (TT × Heap)) : List Oper → List (TT × Heap) → Nat → Bool
  | o :: os, x :: tr, i => cond ((ldQ C n ops pre m o i).f all x.1 x.2) (loadsD C n ops pre m all os tr (i + 1)) false
  | _, _, _ => true
theorem loadsD_eq (C : Ctx) (n : Nat) (ops : List Oper) (pre : List Nat) (all : List (TT × Heap)) : ∀ (os : List Oper) (tr : List (TT × Heap)) (i : Nat), loadsD C n ops pre all.length all os tr i = true → loadsOk C ops pre (all.map (asL n)) os (tr.map (asL n)) i = true := by
  intro os
  induction os with
  | nil => intro tr i _; cases tr <;> rfl
  | cons o os ih =>
    intro tr i h
    cases tr with
    | nil => rfl
    | cons x tr =>
      simp only [loadsD] at h
      simp only [List.map_cons, asL, loadsOk]
      cases hq : (ldQ C n ops pre all.length o i).f all x.1 x.2 with
      | false => rw [hq] at h; cases h
      | true =>
        rw [hq] at h
        rw [ih tr (i + 1) h, Bool.and_true]
        unfold ldQ at hq
        split at hq
        · rename_i t y ho
          simp only [ho]
          simp only [wantQ_eq, qO_eq] at hq
          cases hw : Region.wanted o (ayielded ops (toL n x.1)) with
          | false => simp
          | true =>
            rw [hw] at hq
            simp only [cond_true, if_true] at hq ⊢
            cases ha : opd (toL n x.1) y with
            | none => rw [ha] at hq; cases hq
            | some a =>
              rw [ha] at hq
              simp only at hq ⊢
              cases hl : loadE C t a x.2 with
              | none => rw [hl] at hq; cases hq
              | some v =>
                rw [hl] at hq
                exact atsD_eq C n ops pre i t a v all all 0 rfl hq
        · rename_i hne
          split
          · rename_i t y ho; exact absurd ho (hne t y)
          · rfl
def posA (C : Ctx) (ops : List Oper) (pre : List Nat) (i : Nat) : Nat → Nat → List Nat
  | _, 0 => []
  | p, k + 1 => match isBd C ops p && decide (i < p) && mayAt C ops pre i p ops 0 with
    | true => p :: posA C ops pre i (p + 1) k
    | false => posA C ops pre i (p + 1) k
def atsA (A : Nat) (ty : TypeId) (cs : List AV) (all : List (TT × Heap)) : List Nat → Bool
  | [] => true
  | p :: ps => match all[p]? with
    | some x => (match x.2.get A with
      | .cells true ty' cs' => cond (ty == ty' && sameLs cs cs') (atsA A ty cs all ps) false
      | _ => false)
    | none => atsA A ty cs all ps
theorem atsA_eq (C : Ctx) (n : Nat) (ops : List Oper) (pre : List Nat) (i A : Nat) (ty : TypeId) (cs : List AV) (all : List (TT × Heap)) : ∀ (rest : List (TT × Heap)) (p : Nat), all.drop p = rest → atsA A ty cs all (posA C ops pre i p rest.length) = true → allocAts C ops pre i A ty cs (rest.map (asL n)) p = true := by
  intro rest
  induction rest with
  | nil => intro p _ _; rfl
  | cons x rest ih =>
    intro p hp h
    have hx : all[p]? = some x := by
      have : (all.drop p)[0]? = some x := by rw [hp]; rfl
      simpa using this
    have hr : all.drop (p + 1) = rest := by
      have : (all.drop p).drop 1 = rest := by rw [hp]; rfl
      rw [List.drop_drop] at this
      exact this
    simp only [List.length_cons, posA] at h
    simp only [List.map_cons, asL, allocAts]
    cases hb : isBd C ops p && decide (i < p) && mayAt C ops pre i p ops 0 with
    | false =>
      rw [hb] at h
      simp only at h
      simp only [Bool.not_false, Bool.true_or, Bool.true_and]
      exact ih (p + 1) hr h
    | true =>
      rw [hb] at h
      simp only [atsA, hx] at h
      simp only [Bool.not_true, Bool.false_or]
      split at h
      · rename_i ty' cs' hg
        cases hs : (ty == ty' && sameLs cs cs') with
        | false => rw [hs] at h; cases h
        | true =>
          rw [hs] at h
          rw [hg]
          simp only [hs, Bool.true_and]
          exact ih (p + 1) hr h
      · cases h
def alQ (C : Ctx) (n : Nat) (ops : List Oper) (pre : List Nat) (m : Nat) (o : Oper) (i : Nat) : LD :=
  match kindOf C o.op with
  | .alloc => ⟨fun all T H => cond (wantQ n ops o T) (match allocE C (fun x => (qO n x).f T) o.op with
      | some (.cells true ty cs, _) => atsA H.n ty cs all (posA C ops pre i 0 m)
      | _ => false) true⟩
  | _ => ⟨fun _ _ _ => true⟩
def allocsD (C : Ctx) (n : Nat) (ops : List Oper) (pre : List Nat) (m : Nat) (all : List (TT × Heap)) : List Oper → List (TT × Heap) → Nat → Bool
  | o :: os, x :: tr, i => cond ((alQ C n ops pre m o i).f all x.1 x.2) (allocsD C n ops pre m all os tr (i + 1)) false
  | _, _, _ => true
theorem allocsD_eq (C : Ctx) (n : Nat) (ops : List Oper) (pre : List Nat) (all : List (TT × Heap)) : ∀ (os : List Oper) (tr : List (TT × Heap)) (i : Nat), allocsD C n ops pre all.length all os tr i = true → allocsOk C ops pre (all.map (asL n)) os (tr.map (asL n)) i = true := by
  intro os
  induction os with
  | nil => intro tr i _; cases tr <;> rfl
  | cons o os ih =>
    intro tr i h
    cases tr with
    | nil => rfl
    | cons x tr =>
      simp only [allocsD] at h
      simp only [List.map_cons, asL, allocsOk]
      cases hq : (alQ C n ops pre all.length o i).f all x.1 x.2 with
      | false => rw [hq] at h; cases h
      | true =>
        rw [hq] at h
        rw [ih tr (i + 1) h, Bool.and_true]
        unfold alQ at hq
        cases hk : kindOf C o.op <;> simp only [hk] at hq ⊢
        have hρ : (fun x_1 => (qO n x_1).f x.1) = opd (toL n x.1) := funext fun y => qO_eq n y x.1
        simp only [wantQ_eq, hρ] at hq
        cases hw : Region.wanted o (ayielded ops (toL n x.1)) with
        | false => simp
        | true =>
          rw [hw] at hq
          simp only [cond_true, if_true] at hq ⊢
          split at hq
          · rename_i ty cs g ha
            rw [ha]
            exact atsA_eq C n ops pre i x.2.n ty cs all all 0 rfl hq
          · cases hq
def monoD : List (TT × Heap) → Bool
  | [] => true
  | [_] => true
  | x :: y :: r => cond (Nat.ble x.2.n y.2.n) (monoD (y :: r)) false
theorem monoD_eq (n : Nat) : ∀ (tr : List (TT × Heap)), monoD tr = true → monoOk (tr.map (asL n)) = true
  | [], _ => rfl
  | [_], _ => rfl
  | x :: y :: r, h => by
    simp only [monoD] at h
    cases hb : Nat.ble x.2.n y.2.n with
    | false => rw [hb] at h; cases h
    | true =>
      rw [hb] at h
      have := monoD_eq n (y :: r) h
      simp only [List.map_cons, asL, monoOk] at this ⊢
      rw [this, decide_eq_true (Nat.le_of_ble_eq_true hb)]
      rfl
structure DQ where
  f : List (TT × Heap) → Bool
def drawD (C : Ctx) (n : Nat) (ops : List Oper) : DQ :=
  match orderOk C ops (preList ops []) ops 0 with
  | true => ⟨fun tr => cond (Nat.beq tr.length (ops.length + 1)) (cond (loadsD C n ops (preList ops []) (ops.length + 1) tr ops tr 0) (cond (allocsD C n ops (preList ops []) (ops.length + 1) tr ops tr 0) (monoD tr) false) false) false⟩
  | false => ⟨fun _ => false⟩
theorem drawD_ok {C : Ctx} {n : Nat} {ops : List Oper} {tr : List (TT × Heap)} (h : (drawD C n ops).f tr = true) : drawOk C ops (tr.map (asL n)) = true := by
  unfold drawD at h
  unfold drawOk
  cases ho : orderOk C ops (preList ops []) ops 0 with
  | false => rw [ho] at h; cases h
  | true =>
    rw [ho] at h
    simp only at h ⊢
    cases hl : Nat.beq tr.length (ops.length + 1) with
    | false => rw [hl] at h; cases h
    | true =>
      rw [hl] at h
      have hl := Nat.eq_of_beq_eq_true hl
      rw [← hl] at h
      simp only [cond_true] at h
      cases h1 : loadsD C n ops (preList ops []) tr.length tr ops tr 0 with
      | false => rw [h1] at h; cases h
      | true =>
        rw [h1] at h
        simp only [cond_true] at h
        cases h2 : allocsD C n ops (preList ops []) tr.length tr ops tr 0 with
        | false => rw [h2] at h; cases h
        | true =>
          rw [h2] at h
          rw [ho, loadsD_eq C n ops _ tr ops tr 0 h1, allocsD_eq C n ops _ tr ops tr 0 h2, monoD_eq n tr h]
          rfl
end Go.PI
