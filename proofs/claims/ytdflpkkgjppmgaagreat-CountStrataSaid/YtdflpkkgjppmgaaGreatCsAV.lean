/- Own work of the verifier: PiDrawQ PiQuick2 PiTabG PiClosed CoFm PiRowG PiImp. -/
import Derived.Test.YtdflpkkgjppmgaaGreatCsAU
import Derived.Test.YtdflpkkgjppmgaaGreatCsAJ
import Derived.Test.YtdflpkkgjppmgaaGreatCsAA
import Derived.ProofKit
import Derived.LaidMore
import Derived.OpenShut
import Derived.Stop.Joined
import Derived.Below
import Derived.Test.YtdflpkkgjppmgaaGreatCsAO
set_option linter.all false
set_option exponentiation.threshold 3000
set_option linter.deprecated false
/- THE CHECK OF A REGION WHOSE ORDER IS OPEN, what is static of it computed once. -/
namespace Go.PI
def posL (C : Ctx) (ops : List Oper) (pre : List Nat) (i : Nat) : Nat → Nat → List Nat
  | _, 0 => []
  | p, k + 1 => match isBd C ops p && mayAt C ops pre i p ops 0 with
    | true => p :: posL C ops pre i (p + 1) k
    | false => posL C ops pre i (p + 1) k
def atsD (C : Ctx) (t : TypeId) (a v : AV) (all : List (TT × Heap)) : List Nat → Bool
  | [] => true
  | p :: ps => match all[p]? with
    | some x => (match loadE C t a x.2 with
      | some v' => cond (v.same v') (atsD C t a v all ps) false
      | none => false)
    | none => atsD C t a v all ps
theorem atsD_eq (C : Ctx) (n : Nat) (ops : List Oper) (pre : List Nat) (i : Nat) (t : TypeId) (a v : AV) (all : List (TT × Heap)) : ∀ (rest : List (TT × Heap)) (p : Nat), all.drop p = rest → atsD C t a v all (posL C ops pre i p rest.length) = true → loadAts C ops pre i t a v (rest.map (asL n)) p = true := by
  intro rest
  induction rest with
  | nil => intro p _ _; rfl
  | cons x rest ih =>
    intro p hp h
    have hx : all[p]? = some x := by
      have : (all.drop p)[0]? = some x := by rw [hp]; rfl
      simpa using this
    have hr : all.drop (p + 1) = rest := by
      have : (all.drop p).drop 1 = rest := by rw [hp]; rfl
      rw [List.drop_drop] at this
      exact this
    simp only [List.length_cons, posL] at h
    simp only [List.map_cons, asL, loadAts]
    cases hb : isBd C ops p && mayAt C ops pre i p ops 0 with
    | false =>
      rw [hb] at h
      simp only at h
      simp only [Bool.not_false, Bool.true_or, Bool.true_and]
      exact ih (p + 1) hr h
    | true =>
      rw [hb] at h
      simp only [atsD, hx] at h
      simp only [Bool.not_true, Bool.false_or]
      cases hl : loadE C t a x.2 with
      | none => rw [hl] at h; cases h
      | some v' =>
        rw [hl] at h
        simp only at h ⊢
        cases hs : v.same v' with
        | false => rw [hs] at h; cases h
        | true =>
          rw [hs] at h
          rw [Bool.true_and]
          exact ih (p + 1) hr h
structure LD where
  f : List (TT × Heap) → TT → Heap → Bool
def wantQ (n : Nat) (ops : List Oper) (o : Oper) (T : TT) : Bool :=
  match o.guard with
  | none => true
  | some _ => Region.wanted o (fun j => (ayQ n ops j).f T)
theorem wantQ_eq (n : Nat) (ops : List Oper) (o : Oper) (T : TT) : wantQ n ops o T = Region.wanted o (ayielded ops (toL n T)) := by
  unfold wantQ
  split
  · rename_i h; simp [Region.wanted, h]
  · have hy : (fun j => (ayQ n ops j).f T) = ayielded ops (toL n T) := funext (ayQ_eq n ops T)
    rw [hy]
def ldQ (C : Ctx) (n : Nat) (ops : List Oper) (pre : List Nat) (m : Nat) (o : Oper) (i : Nat) : LD :=
  match o.op with
  | .load t x => ⟨fun all T H => cond (wantQ n ops o T) (match (qO n x).f T with
      | some a => (match loadE C t a H with
        | some v => atsD C t a v all (posL C ops pre i 0 m)
        | none => false)
      | none => false) true⟩
  | _ => ⟨fun _ _ _ => true⟩
def loadsD (C : Ctx) (n : Nat) (ops : List Oper) (pre : List Nat) (m : Nat) (all : List (TT × Heap)) : List Oper → List (TT × Heap) → Nat → Bool
  | o :: os, x :: tr, i => cond ((ldQ C n ops pre m o i).f all x.1 x.2) (loadsD C n ops pre m all os tr (i + 1)) false
  | _, _, _ => true
theorem loadsD_eq (C : Ctx) (n : Nat) (ops : List Oper) (pre : List Nat) (all : List (TT × Heap)) : ∀ (os : List Oper) (tr : List (TT × Heap)) (i : Nat), loadsD C n ops pre all.length all os tr i = true → loadsOk C ops pre (all.map (asL n)) os (tr.map (asL n)) i = true := by
  intro os
  induction os with
  | nil => intro tr i _; cases tr <;> rfl
  | cons o os ih =>
    intro tr i h
    cases tr with
    | nil => rfl
    | cons x tr =>
      simp only [loadsD] at h
      simp only [List.map_cons, asL, loadsOk]
      cases hq : (ldQ C n ops pre all.length o i).f all x.1 x.2 with
      | false => rw [hq] at h; cases h
      | true =>
        rw [hq] at h
        rw [ih tr (i + 1) h, Bool.and_true]
        unfold ldQ at hq
        split at hq
        · rename_i t y ho
          simp only [ho]
          simp only [wantQ_eq, qO_eq] at hq
          cases hw : Region.wanted o (ayielded ops (toL n x.1)) with
          | false => simp
          | true =>
            rw [hw] at hq
            simp only [cond_true, if_true] at hq ⊢
            cases ha : opd (toL n x.1) y with
            | none => rw [ha] at hq; cases hq
            | some a =>
              rw [ha] at hq
              simp only at hq ⊢
              cases hl : loadE C t a x.2 with
              | none => rw [hl] at hq; cases hq
              | some v =>
                rw [hl] at hq
                exact atsD_eq C n ops pre i t a v all all 0 rfl hq
        · rename_i hne
          split
          · rename_i t y ho; exact absurd ho (hne t y)
          · rfl
def posA (C : Ctx) (ops : List Oper) (pre : List Nat) (i : Nat) : Nat → Nat → List Nat
  | _, 0 => []
  | p, k + 1 => match isBd C ops p && decide (i < p) && mayAt C ops pre i p ops 0 with
    | true => p :: posA C ops pre i (p + 1) k
    | false => posA C ops pre i (p + 1) k
def atsA (A : Nat) (ty : TypeId) (cs : List AV) (all : List (TT × Heap)) : List Nat → Bool
  | [] => true
  | p :: ps => match all[p]? with
    | some x => (match x.2.get A with
      | .cells true ty' cs' => cond (ty == ty' && sameLs cs cs') (atsA A ty cs all ps) false
      | _ => false)
    | none => atsA A ty cs all ps
theorem atsA_eq (C : Ctx) (n : Nat) (ops : List Oper) (pre : List Nat) (i A : Nat) (ty : TypeId) (cs : List AV) (all : List (TT × Heap)) : ∀ (rest : List (TT × Heap)) (p : Nat), all.drop p = rest → atsA A ty cs all (posA C ops pre i p rest.length) = true → allocAts C ops pre i A ty cs (rest.map (asL n)) p = true := by
  intro rest
  induction rest with
  | nil => intro p _ _; rfl
  | cons x rest ih =>
    intro p hp h
    have hx : all[p]? = some x := by
      have : (all.drop p)[0]? = some x := by rw [hp]; rfl
      simpa using this
    have hr : all.drop (p + 1) = rest := by
      have : (all.drop p).drop 1 = rest := by rw [hp]; rfl
      rw [List.drop_drop] at this
      exact this
    simp only [List.length_cons, posA] at h
    simp only [List.map_cons, asL, allocAts]
    cases hb : isBd C ops p && decide (i < p) && mayAt C ops pre i p ops 0 with
    | false =>
      rw [hb] at h
      simp only at h
      simp only [Bool.not_false, Bool.true_or, Bool.true_and]
      exact ih (p + 1) hr h
    | true =>
      rw [hb] at h
      simp only [atsA, hx] at h
      simp only [Bool.not_true, Bool.false_or]
      split at h
      · rename_i ty' cs' hg
        cases hs : (ty == ty' && sameLs cs cs') with
        | false => rw [hs] at h; cases h
        | true =>
          rw [hs] at h
          rw [hg]
          simp only [hs, Bool.true_and]
          exact ih (p + 1) hr h
      · cases h
def alQ (C : Ctx) (n : Nat) (ops : List Oper) (pre : List Nat) (m : Nat) (o : Oper) (i : Nat) : LD :=
  match kindOf C o.op with
  | .alloc => ⟨fun all T H => cond (wantQ n ops o T) (match allocE C (fun x => (qO n x).f T) o.op with
      | some (.cells true ty cs, _) => atsA H.n ty cs all (posA C ops pre i 0 m)
      | _ => false) true⟩
  | _ => ⟨fun _ _ _ => true⟩
def allocsD (C : Ctx) (n : Nat) (ops : List Oper) (pre : List Nat) (m : Nat) (all : List (TT × Heap)) : List Oper → List (TT × Heap) → Nat → Bool
  | o :: os, x :: tr, i => cond ((alQ C n ops pre m o i).f all x.1 x.2) (allocsD C n ops pre m all os tr (i + 1)) false
  | _, _, _ => true
theorem allocsD_eq (C : Ctx) (n : Nat) (ops : List Oper) (pre : List Nat) (all : List (TT × Heap)) : ∀ (os : List Oper) (tr : List (TT × Heap)) (i : Nat), allocsD C n ops pre all.length all os tr i = true → allocsOk C ops pre (all.map (asL n)) os (tr.map (asL n)) i = true := by
  intro os
  induction os with
  | nil => intro tr i _; cases tr <;> rfl
  | cons o os ih =>
    intro tr i h
    cases tr with
    | nil => rfl
    | cons x tr =>
      simp only [allocsD] at h
      simp only [List.map_cons, asL, allocsOk]
      cases hq : (alQ C n ops pre all.length o i).f all x.1 x.2 with
      | false => rw [hq] at h; cases h
      | true =>
        rw [hq] at h
        rw [ih tr (i + 1) h, Bool.and_true]
        unfold alQ at hq
        cases hk : kindOf C o.op <;> simp only [hk] at hq ⊢
        have hρ : (fun x_1 => (qO n x_1).f x.1) = opd (toL n x.1) := funext fun y => qO_eq n y x.1
        simp only [wantQ_eq, hρ] at hq
        cases hw : Region.wanted o (ayielded ops (toL n x.1)) with
        | false => simp
        | true =>
          rw [hw] at hq
          simp only [cond_true, if_true] at hq ⊢
          split at hq
          · rename_i ty cs g ha
            rw [ha]
            exact atsA_eq C n ops pre i x.2.n ty cs all all 0 rfl hq
          · cases hq
def monoD : List (TT × Heap) → Bool
  | [] => true
  | [_] => true
  | x :: y :: r => cond (Nat.ble x.2.n y.2.n) (monoD (y :: r)) false
theorem monoD_eq (n : Nat) : ∀ (tr : List (TT × Heap)), monoD tr = true → monoOk (tr.map (asL n)) = true
  | [], _ => rfl
  | [_], _ => rfl
  | x :: y :: r, h => by
    simp only [monoD] at h
    cases hb : Nat.ble x.2.n y.2.n with
    | false => rw [hb] at h; cases h
    | true =>
      rw [hb] at h
      have := monoD_eq n (y :: r) h
      simp only [List.map_cons, asL, monoOk] at this ⊢
      rw [this, decide_eq_true (Nat.le_of_ble_eq_true hb)]
      rfl
structure DQ where
  f : List (TT × Heap) → Bool
def drawD (C : Ctx) (n : Nat) (ops : List Oper) : DQ :=
  match orderOk C ops (preList ops []) ops 0 with
  | true => ⟨fun tr => cond (Nat.beq tr.length (ops.length + 1)) (cond (loadsD C n ops (preList ops []) (ops.length + 1) tr ops tr 0) (cond (allocsD C n ops (preList ops []) (ops.length + 1) tr ops tr 0) (monoD tr) false) false) false⟩
  | false => ⟨fun _ => false⟩
theorem drawD_ok {C : Ctx} {n : Nat} {ops : List Oper} {tr : List (TT × Heap)} (h : (drawD C n ops).f tr = true) : drawOk C ops (tr.map (asL n)) = true := by
  unfold drawD at h
  unfold drawOk
  cases ho : orderOk C ops (preList ops []) ops 0 with
  | false => rw [ho] at h; cases h
  | true =>
    rw [ho] at h
    simp only at h ⊢
    cases hl : Nat.beq tr.length (ops.length + 1) with
    | false => rw [hl] at h; cases h
    | true =>
      rw [hl] at h
      have hl := Nat.eq_of_beq_eq_true hl
      rw [← hl] at h
      simp only [cond_true] at h
      cases h1 : loadsD C n ops (preList ops []) tr.length tr ops tr 0 with
      | false => rw [h1] at h; cases h
      | true =>
        rw [h1] at h
        simp only [cond_true] at h
        cases h2 : allocsD C n ops (preList ops []) tr.length tr ops tr 0 with
        | false => rw [h2] at h; cases h
        | true =>
          rw [h2] at h
          rw [ho, loadsD_eq C n ops _ tr ops tr 0 h1, allocsD_eq C n ops _ tr ops tr 0 h2, monoD_eq n tr h]
          rfl
end Go.PI
namespace Go.PI
theorem rangeF_mono {C : Ctx} {a b : Ih} (h : Ih.Le a b) {rd : Option Nat} {f : Operand} {ps : Array Tmp} {as bd : Code} {s : St} {r : Ex × St} (e : rangeF C a rd f ps as bd s = some r) : rangeF C b rd f ps as bd s = some r := by
  unfold rangeF at e ⊢
  split at e
  · cases e
  · rename_i hl
    rw [if_neg hl]
    split at e
    · rename_i g first caps ho
      try simp only [ho] at e ⊢
      split at e
      · cases e
      · rename_i hg
        rw [if_neg hg]
        split at e
        · rename_i D H1 Ds hst
          try simp only [hst] at e ⊢
          split at e
          · rename_i v H3 hc
            rw [callF_mono h hc]
            try simp only at e ⊢
            split at e
            · rename_i lp hlp
              try simp only [hlp] at e ⊢
              split at e
              · cases e
              · rename_i hb
                rw [if_neg hb]
                split at e
                · rename_i hp
                  try simp only [hp] at e ⊢
                  exact e
                · rename_i c hp
                  try simp only [hp] at e ⊢
                  exact h _ _ _ _ e
            · cases e
          · cases e
        · cases e
    · cases e
def lastQ : List (TT × Heap) → Option (TT × Heap)
  | [] => none
  | [x] => some x
  | _ :: xs => lastQ xs
theorem lastQ_eq (n : Nat) (tr : List (TT × Heap)) : lastOf (tr.map (asL n)) = (lastQ tr).map (asL n) := by
  induction tr with
  | nil => rfl
  | cons x xs ih =>
    cases xs with
    | nil => rfl
    | cons y ys => simpa [lastOf, lastQ] using ih
structure CQ where
  f : IhQ → Nat → Option Nat → QT → Option (Ex × QT)
def thenQ (r : Option (Ex × QT)) (k : QT → Option (Ex × QT)) : Option (Ex × QT) :=
  match r with
  | some (.normal, s') => k s'
  | r => r
def condQ (c : Option AV) (x y : Option (Ex × QT)) : Option (Ex × QT) :=
  match c with
  | some (.bool true) => x
  | some (.bool false) => y
  | _ => none
def blockQ (id : Nat) (r : Option (Ex × QT)) : Option (Ex × QT) :=
  match r with
  | some (.exit i, s') => if i = id then some (.normal, s') else some (.exit i, s')
  | r => r
def regQ (r : Option (TT × Heap)) (D : List Nat) : Option (Ex × QT) :=
  match r with
  | some (T', H') => some (.normal, ⟨T', H', D⟩)
  | none => none
def drawQ (C : Ctx) (n : Nat) (ops : List Oper) (r : Option (List (TT × Heap))) (D : List Nat) : Option (Ex × QT) :=
  match r with
  | some tr => cond ((drawD C n ops).f tr) (regQ (lastQ tr) D) none
  | none => none
noncomputable def loopQ (g : QT → Option (Ex × QT)) (k : Nat) : QT → Option (Ex × QT) :=
  Nat.rec (motive := fun _ => QT → Option (Ex × QT)) (fun _ => none) (fun _ again s => thenQ (g s) again) k
noncomputable def qC (C : Ctx) (n : Nat) : Code → CQ
  | .skip => ⟨fun _ _ _ s => some (.normal, s)⟩
  | .label _ => ⟨fun _ _ _ s => some (.normal, s)⟩
  | .seq a b => ⟨fun ih _ rd s => thenQ (ih n rd a s) (ih n rd b)⟩
  | .cond c a b => ⟨fun ih _ rd s => condQ ((qO n c).f s.t) (ih n rd a s) (ih n rd b s)⟩
  | .block id b => ⟨fun ih _ rd s => blockQ id (ih n rd b s)⟩
  | .loop b => ⟨fun ih k rd s => loopQ (ih n rd b) k s⟩
  | .exit id => ⟨fun _ _ _ s => some (.exit id, s)⟩
  | .goto l => ⟨fun _ _ _ s => some (.goto l, s)⟩
  | .ret => ⟨fun _ _ _ s => some (.ret, s)⟩
  | .region _ ops draw => match draw with
    | true => ⟨fun ih _ _ s => drawQ C n ops.toList ((qT C n ops.toList ops.toList).f ih s.t s.H) s.D⟩
    | false => ⟨fun ih _ _ s => regQ ((qR C n ops.toList ops.toList).f ih s.t s.H) s.D⟩
  | .rangeFunc f ps as bd => ⟨fun ih _ rd s => match rangeF C (slowQ ih) rd f ps as bd (s.st n) with
    | some (e, s') => if s'.T.length = n then some (e, ⟨ofA 0 zeroT s'.T, s'.H, s'.D⟩) else none
    | none => none⟩
  | _ => ⟨fun _ _ _ _ => none⟩
theorem loopQ_sim {ih : IhQ} {ihS : Ih} (hs : Sim ih ihS) {n : Nat} (hn : n ≤ 256) {rd : Option Nat} {b : Code} (k : Nat) : ∀ {q : QT} {e : Ex} {q' : QT}, loopQ (ih n rd b) k q = some (e, q') → loopF ihS rd b k (q.st n) = some (e, q'.st n) := by
  induction k with
  | zero => intro q e q' h; cases h
  | succ k ihk =>
    intro q e q' h
    change thenQ (ih n rd b q) (loopQ (ih n rd b) k) = _ at h
    unfold thenQ at h
    unfold loopF
    split at h
    · rename_i s' h1
      rw [hs _ hn _ _ _ _ _ h1]
      exact ihk h
    · rename_i h1
      rw [hs _ hn _ _ _ _ _ h]
      cases e <;> first | rfl | exact absurd h (h1 _)
theorem qC_sim {C : Ctx} {ih : IhQ} {ihS : Ih} (hs : Sim ih ihS) {n : Nat} (hn : n ≤ 256) {k : Nat} {rd : Option Nat} {c : Code} {q : QT} {e : Ex} {q' : QT} (h : (qC C n c).f ih k rd q = some (e, q')) : evF C ihS k rd c (q.st n) = some (e, q'.st n) := by
  cases c with
  | skip => cases h; rfl
  | label => cases h; rfl
  | exit => cases h; rfl
  | goto => cases h; rfl
  | ret => cases h; rfl
  | refuse => cases h
  | scope => cases h
  | seq a b =>
    simp only [qC, thenQ] at h
    simp only [evF]
    split at h
    · rename_i s' h1
      rw [hs _ hn _ _ _ _ _ h1]
      exact hs _ hn _ _ _ _ _ h
    · rename_i h1
      rw [hs _ hn _ _ _ _ _ h]
      cases e <;> first | rfl | exact absurd h (h1 _)
  | cond c a b =>
    simp only [qC, condQ, qO_eq] at h
    simp only [evF]
    split at h
    · rename_i h1
      have h1' : opd (q.st n).T c = some (.bool true) := h1
      rw [h1']
      exact hs _ hn _ _ _ _ _ h
    · rename_i h1
      have h1' : opd (q.st n).T c = some (.bool false) := h1
      rw [h1']
      exact hs _ hn _ _ _ _ _ h
    · cases h
  | block id b =>
    simp only [qC, blockQ] at h
    simp only [evF]
    split at h
    · rename_i i s' h1
      rw [hs _ hn _ _ _ _ _ h1]
      split at h <;> cases h <;> simp_all
    · rename_i h1
      rw [hs _ hn _ _ _ _ _ h]
      cases e <;> first | rfl | exact absurd h (h1 _ _)
  | loop b => exact loopQ_sim hs hn k h
  | region r ops draw =>
    cases draw with
    | true =>
      simp only [qC, drawQ] at h
      simp only [evF, if_true]
      split at h
      · rename_i tr h1
        have h2 := qT_sim hs hn h1
        have h2' : traceE C ihS ops.toList ops.toList (q.st n).T (q.st n).H = some (tr.map (asL n)) := h2
        rw [h2']
        cases hd : (drawD C n ops.toList).f tr with
        | false => rw [hd] at h; cases h
        | true =>
          rw [hd] at h
          have hd := drawD_ok hd
          simp only [hd, if_true, lastQ_eq]
          cases hl : lastQ tr with
          | none => rw [hl] at h; cases h
          | some p => rw [hl] at h; cases h; rfl
      · cases h
    | false =>
      simp only [qC, regQ] at h
      simp only [evF]
      split at h
      · rename_i T' H' h1
        have h2 : runE C ihS ops.toList ops.toList (q.st n).T (q.st n).H = _ := qR_sim hs hn h1
        rw [h2]
        cases h
        rfl
      · cases h
  | rangeFunc f ps as bd =>
    simp only [qC] at h
    simp only [evF]
    split at h
    · rename_i e1 s' h1
      split at h
      · rename_i hl
        cases h
        rw [rangeF_mono (slow_le hs) h1]
        unfold QT.st
        simp only
        subst hl
        rw [toL_ofL _ hn]
      · cases h
    · cases h
noncomputable def evQ (C : Ctx) (k : Nat) : IhQ := Nat.rec (motive := fun _ => IhQ) (fun _ _ _ _ => none) (fun k ih n rd c s => (qC C n c).f ih k rd s) k
theorem evQ_sim (C : Ctx) (k : Nat) : Sim (evQ C k) (ev C k) := by
  induction k with
  | zero => intro n _ rd c q e q' h; cases h
  | succ k ih => intro n hn rd c q e q' h; exact qC_sim ih hn h
noncomputable def quick (C : Ctx) (k : Nat) (f : FuncId) (args : List AV) (H : Heap) : Option (AV × Heap) := callQ C (evQ C k) f args H
theorem quick_sim {C : Ctx} {k : Nat} {f : FuncId} {args : List AV} {H : Heap} {r : AV × Heap} (h : quick C k f args H = some r) : call C k f args H = some r := callQ_sim (evQ_sim C k) h
end Go.PI
/- A CALL WITHOUT ARGUMENTS that was seen to end true, as a summary. -/
namespace Go.PI
theorem frame_closed {μ : M} {H H1 : Heap} {w w' : World} {v : AV} {u : Value} (hH : HR μ H w) (hv : ∀ μ1, VR μ1 v u → VR μ v u) (h : EffR (fun _ => none) ⟨0, .nil⟩ w v H1 u w') : EffR μ H w v H u w' := by
  obtain ⟨μ1, h1, h2, hF⟩ := h
  have hk : ∀ k, k < w.heap.size → w'.heap[k]? = w.heap[k]? := fun k hk => (hF.keep k hk (by rintro ⟨A, a, -, hm, -⟩; cases hm)).1
  refine ⟨μ, hv _ h1, ⟨hH.lim, hH.dom, fun A bi hA hm => ?_, hH.inj⟩, M.le.refl _, fun _ _ => rfl, Nat.le_refl _, hF.os, hF.tape, hF.output, hF.size, fun k hk' ho => ⟨hk k hk', ho⟩, fun A hl ho => ⟨Heap.lt_of_get (fun e => by rw [e] at hl; cases hl), rfl⟩⟩
  obtain ⟨g1, g2⟩ := hH.blk A bi hA hm
  refine ⟨Nat.lt_of_lt_of_le g1 hF.size, ?_⟩
  generalize H.get A = x at g2
  cases x with
  | dead => trivial
  | dfr => exact (hk _ g1).trans g2
  | cells rw ty cs =>
    obtain ⟨carr, fz, q1, q2⟩ := g2
    exact ⟨carr, fz, (hk _ g1).trans q1, q2⟩
  | loop L =>
    obtain ⟨lp, q1, q2⟩ := g2
    exact ⟨lp, (hk _ g1).trans q1, q2⟩
  | map k es =>
    obtain ⟨ms, clock, q1, q2⟩ := g2
    exact ⟨ms, clock, (hk _ g1).trans q1, q2⟩
  | smap es =>
    obtain ⟨ms, clock, q1, q2⟩ := g2
    exact ⟨ms, clock, (hk _ g1).trans q1, q2⟩
  | siter s pos => exact ⟨g2.1, (hk _ g1).trans g2.2⟩
def SumR (P : Program) (f : FuncId) (S : List AV → Heap → Option (AV × Heap)) : Prop := ∀ us H v H', S us H = some (v, H') → ∀ μ (args : Array Value) w, VRs μ us args.toList → HR μ H w → CallR P μ H w f args v H'
theorem Ctx.plus_ok2 {P : Program} {C : Ctx} (hC : Ctx.Ok P C) {T : FuncId → Option (List AV → Heap → Option (AV × Heap))} (h : ∀ f S, T f = some S → C.sum f = some S ∨ SumR P f S) : Ctx.Ok P (C.plus T) where
  ty := hC.ty
  fn := hC.fn
  same := hC.same
  noZero := hC.noZero
  mixed := hC.mixed
  eqs := hC.eqs
  sum := by
    intro f S us H v H' hf hS μ args w ha hH
    rcases h f S hf with h | h
    · exact hC.sum f S us H v H' h hS μ args w ha hH
    · exact h us H v H' hS μ args w ha hH
theorem closed_true {P : Program} {C : Ctx} (hC : Ctx.Ok P C) {n : Nat} {f : FuncId} {H1 : Heap} (h : call C n f [] ⟨0, .nil⟩ = some (.bool true, H1)) : SumR P f fun us H => match us with
    | [] => some (.bool true, H)
    | _ => none := by
  intro us H v H' hS μ args w ha hH
  cases us with
  | cons a b => cases hS
  | nil =>
    cases hS
    have h0 : HR (fun _ => none) ⟨0, .nil⟩ w := ⟨by simp [PI.lim], fun _ _ => rfl, fun A bi hl hm => (by cases hm), fun A B a b _ _ _ hm => (by cases hm)⟩
    have ha0 : VRs (fun _ => none) [] args.toList := by
      generalize args.toList = l at ha
      cases ha
      exact .nil
    have hb : ∀ u, (∀ μ1, VR μ1 (.bool true) u → VR μ (.bool true) u) := fun u μ1 h => by cases h; exact .bool _
    rcases callF_sim hC (sound hC n) h ha0 h0 with ⟨u, w', h1, h2⟩ | ⟨h1, h2⟩
    · exact .inl ⟨u, w', h1, frame_closed hH (hb u) h2⟩
    · refine .inr ⟨h1, fun F m hF => (h2 F m hF).mono ?_⟩
      rintro e w' ⟨u, rfl, hE⟩
      exact ⟨u, rfl, frame_closed hH (hb u) hE⟩
def sTrue (us : List AV) (H : Heap) : Option (AV × Heap) :=
  match us with
  | [] => some (.bool true, H)
  | _ => none
def isTrue (x : Option (AV × Heap)) : Bool := match x with | some (.bool true, _) => true | _ => false
theorem isTrue_some {x : Option (AV × Heap)} (h : isTrue x = true) : ∃ H, x = some (.bool true, H) := by
  unfold isTrue at h
  split at h
  · exact ⟨_, rfl⟩
  · cases h
end Go.PI
/- A CALL WITH CLOSED ARGUMENTS, once seen to end with a value, as a summary. -/
namespace Go.PI
end Go.PI
/- SUMS OF DIVISORS, and how the squares of primes are divided out. -/
namespace Go.PI
def NoDiv (q d : Nat) : Prop := ∀ x, 2 ≤ x → x < d → ¬ x ∣ q
def Pri (q : Nat) : Prop := NoDiv q q
open Classical in
/-- what is left of n n when the primes below q are done -/
noncomputable def rr (n : Nat) : Nat → Nat
  | 0 => n * n
  | q + 1 => if 2 ≤ q ∧ q ∣ n ∧ Pri q then rr n q / (q * q) * (q * q - 1) else rr n q
structure SqI (n q rest prod : Nat) : Prop where
  pos : 0 < rest
  nd : NoDiv rest q
  dvd : rest ∣ n
  pr : ∀ p, 2 ≤ p → Pri p → q ≤ p → p ∣ n → p ∣ rest
  sq : rest * rest ∣ prod
  eq : prod = rr n q
theorem SqI.start {n : Nat} (h : 2 ≤ n) : SqI n 2 n (n * n) := ⟨by omega, fun x h1 h2 => by omega, Nat.dvd_refl _, fun p _ _ _ h => h, Nat.dvd_refl _, by simp [rr]⟩
theorem SqI.skip {n q rest prod : Nat} (I : SqI n q rest prod) (h2 : 2 ≤ q) (h : ¬ q ∣ rest) : SqI n (q + 1) rest prod := by
  refine ⟨I.pos, fun x h1 h2 => ?_, I.dvd, fun p a b c d => I.pr p a b (by omega) d, I.sq, ?_⟩
  · by_cases e : x = q
    · subst e; exact h
    · exact I.nd x h1 (by omega)
  · unfold rr
    rw [if_neg (fun hh => h (I.pr q h2 hh.2.2 (Nat.le_refl _) hh.2.1))]
    exact I.eq
theorem SqI.prime {n q rest prod : Nat} (I : SqI n q rest prod) (h : q ∣ rest) : Pri q := fun x h1 h2 hx => I.nd x h1 h2 (Nat.dvd_trans hx h)
structure SqJ (n q rest0 prod rest : Nat) : Prop where
  pos : 0 < rest
  dvd : rest ∣ rest0
  m : rest = rest0 ∨ rest ∣ rest0 / q
  pr : ∀ p, 2 ≤ p → Pri p → q + 1 ≤ p → p ∣ n → p ∣ rest
theorem SqJ.start {n q rest prod : Nat} (I : SqI n q rest prod) : SqJ n q rest prod rest := ⟨I.pos, Nat.dvd_refl _, .inl rfl, fun p a b c d => I.pr p a b (by omega) d⟩
theorem SqJ.next {n q rest0 prod rest : Nat} (h2 : 2 ≤ q) (hq : Pri q) (J : SqJ n q rest0 prod rest) (h : q ∣ rest) : SqJ n q rest0 prod (rest / q) ∧ rest / q < rest := by
  obtain ⟨m, rfl⟩ := h
  have hm : 0 < m := Nat.pos_of_ne_zero fun e => by subst e; have := J.pos; simp at this
  have e1 : q * m / q = m := Nat.mul_div_cancel_left m (by omega)
  rw [e1]
  refine ⟨⟨hm, Nat.dvd_trans ⟨q, Nat.mul_comm _ _⟩ J.dvd, .inr ?_, fun p a b c d => ?_⟩, ?_⟩
  · rcases J.m with h | h
    · rw [← h, e1]; exact Nat.dvd_refl _
    · exact Nat.dvd_trans ⟨q, Nat.mul_comm _ _⟩ h
  · have hp := J.pr p a b c d
    refine Nat.Coprime.dvd_of_dvd_mul_left ?_ hp
    show Nat.gcd p q = 1
    have g1 := Nat.gcd_dvd_left p q
    have g2 := Nat.gcd_dvd_right p q
    have g0 : 0 < Nat.gcd p q := Nat.gcd_pos_of_pos_left _ (by omega)
    rcases Nat.lt_or_ge (Nat.gcd p q) 2 with hl | hl
    · omega
    · exfalso
      have l2 := Nat.le_of_dvd (by omega) g2
      exact b _ hl (by omega) g1
  · calc m < 2 * m := by omega
      _ ≤ q * m := Nat.mul_le_mul_right _ h2
theorem SqJ.done {n q rest0 prod rest : Nat} (h2 : 2 ≤ q) (I : SqI n q rest0 prod) (hd : q ∣ rest0) (J : SqJ n q rest0 prod rest) (h : ¬ q ∣ rest) : SqI n (q + 1) rest (prod / (q * q) * (q * q - 1)) := by
  have hm : rest ∣ rest0 / q := by
    rcases J.m with e | e
    · subst e; exact absurd hd h
    · exact e
  refine ⟨J.pos, fun x h1 h2 hx => ?_, Nat.dvd_trans J.dvd I.dvd, J.pr, ?_, ?_⟩
  · by_cases e : x = q
    · subst e; exact h hx
    · exact I.nd x h1 (by omega) (Nat.dvd_trans hx J.dvd)
  · obtain ⟨m, rfl⟩ := hd
    rw [Nat.mul_div_cancel_left m (by omega)] at hm
    obtain ⟨t, ht⟩ := I.sq
    rw [ht, show q * m * (q * m) * t = (q * q) * (m * m * t) by grind, Nat.mul_div_cancel_left _ (Nat.mul_pos (by omega) (by omega))]
    exact Nat.dvd_trans (Nat.mul_dvd_mul hm hm) ⟨t * (q * q - 1), by rw [Nat.mul_assoc]⟩
  · unfold rr
    rw [if_pos ⟨h2, Nat.dvd_trans hd I.dvd, I.prime hd⟩, I.eq]
theorem SqI.one {n q rest prod : Nat} (I : SqI n q rest prod) (h : rest < q) : rest = 1 := by
  rcases Nat.lt_or_ge rest 2 with h1 | h1
  · have := I.pos; omega
  · exact absurd (Nat.dvd_refl _) (I.nd rest h1 h)
end Go.PI
/- FROM THE INTERPRETER's WORD TO A ROW. -/
namespace Go.PI
open Go.ChangeShapes Go.WideShapes Go.ChangeAt Go.RowKit
theorem post_of_below {H : Type} {enc : TypeId × Value → H} {P : Program} {f : Func} {s : ChangeSpec} {apart fresh handsOn again : Bool} {W W' : World} {args : Array Value} {v : Value} {ds gs : List (DataW H)} {before pa pv : List MemPlace}
    (hW : DataW.Whole enc P f.params.toList s.vars apart W args.toList ds gs before)
    (hres : ∀ (b : Nat) (sp : Nat → Bool) (hd : Bool), DataW.TrodAll enc P W' b sp hd f.resultTypes.toList (v.resultList f.resultTypes.size) (s.fn H (ds ++ gs)).results [])
    (hargs : ∀ sp : Nat → Bool, (∀ p ∈ before, sp p.block = true) → DataW.TrodAll enc P W' 0 sp true f.params.toList args.toList (s.fn H (ds ++ gs)).args pa)
    (hvars : ∀ sp : Nat → Bool, (∀ p ∈ before, sp p.block = true) → DataW.TrodVars enc P W' sp s.vars (s.fn H (ds ++ gs)).vars pv)
    (hps : before = pa ++ pv) (hB : Below W.heap.size W W')
    (hok : ∀ (j : Nat) (t : TypeId) (r : Value), f.resultTypes[j]? = some t → (v.resultList f.resultTypes.size)[j]? = some r → Value.okWide P W' .any 0 t r) :
    s.post enc P f apart fresh handsOn again W args v W' := by
  have hold : ∀ p ∈ before, (fun b => decide (b < W.heap.size)) p.block = true := fun p hp => by simpa using hW.lt p hp
  have hlt := fun p hp => hW.lt p hp
  refine ⟨ds, gs, before, [], pa, pv, hW, hres _ _ _, hargs _ hold, hvars _ hold, World.keptBut_mono (fun p hp => ⟨hp, ?_⟩) (hB.frame (· ∈ before)), fun _ => ?_⟩
  · rw [hps, List.mem_append] at hp
    exact Or.inr hp
  · obtain ⟨_, _, _, _, _, hz, hn⟩ := hW
    refine ⟨hok, _, _, ([] ++ pa) ++ pv, ⟨[] ++ pa, pv, trodAll_append (hargs _ (fun _ _ => rfl)) (hres _ _ _), hvars _ (fun _ _ => rfl), rfl, ?_, ?_⟩, ?_⟩
    · intro b off hp
      have hp2 := hz b off (by rw [hps]; simpa using hp)
      have hp3 := hlt _ (by rw [hps]; simpa using hp)
      rw [hB.frozen (p := ⟨b, off, none⟩) hp3]
      exact hp2
    · intro ha
      have := hn ha
      rw [hps] at this
      simpa using this
    · intro p hp _
      rw [hps]
      simpa using hp
end Go.PI
/- ARGUMENTS: slices of integers that came in, as blocks that are only read. -/
namespace Go.PI
open Go.ChangeShapes Go.WideShapes Go.ChangeAt Go.RowKit
def NoOwn (H : Heap) : Prop := ∀ A, (H.get A).own = false
structure Imp (W : World) (μ : M) (H : Heap) : Prop where
  hr : HR μ H W
  no : NoOwn H
theorem below_of {μ : M} {H H' : Heap} {w w' : World} {v : AV} {u : Value} (hno : NoOwn H) (h : EffR μ H w v H' u w') : Below w.heap.size w w' := by
  obtain ⟨μ', -, -, hf⟩ := h
  refine ⟨hf.os, hf.tape, hf.output, hf.size, fun k hk => (hf.keep k hk ?_).1⟩
  rintro ⟨A, a, ho, -⟩
  rw [hno A] at ho
  cases ho
theorem imp0 (W : World) : Imp W (fun _ => none) ⟨0, .nil⟩ :=
  ⟨⟨by simp [PI.lim], fun _ _ => rfl, fun A bi hl hm => (by cases hm), fun A B a b _ _ _ hm => (by cases hm)⟩, fun A => by unfold Heap.get; simp [Blk.own]⟩
theorem Imp.push {W : World} {μ : M} {H : Heap} (h : Imp W μ H) (hn : H.n < lim) {bi : BI} {b : Blk} (ho : b.own = false) (hb : b.live = true → bi.c < W.heap.size ∧ BlkR (μ.set H.n bi) W bi b) :
    Imp W (μ.set H.n bi) (H.push b) ∧ M.le μ (μ.set H.n bi) := by
  have hle : M.le μ (μ.set H.n bi) := M.le_set (h.hr.dom _ (Nat.le_refl _))
  have hp := Heap.get_push (H := H) (b := b) hn
  refine ⟨⟨⟨?_, ?_, ?_, ?_⟩, ?_⟩, hle⟩
  · show H.n + 1 ≤ lim
    omega
  · intro A hA
    have hA : H.n + 1 ≤ A := hA
    unfold M.set
    rw [if_neg (by omega)]
    exact h.hr.dom A (by omega)
  · intro A bj hl hm
    rw [hp] at hl ⊢
    by_cases hA : A = H.n
    · subst hA
      rw [if_pos rfl] at hl ⊢
      rw [M.set_self] at hm
      cases hm
      exact hb hl
    · rw [if_neg hA] at hl ⊢
      unfold M.set at hm
      rw [if_neg hA] at hm
      obtain ⟨h1, h2⟩ := h.hr.blk A bj hl hm
      exact ⟨h1, h2.mono hle rfl⟩
  · intro A B a b' hAB hA
    rw [hp] at hA
    by_cases hA' : A = H.n
    · rw [if_pos hA', ho] at hA; cases hA
    · rw [if_neg hA', h.no A] at hA; cases hA
  · intro A
    rw [hp]
    by_cases hA : A = H.n
    · rw [if_pos hA]; exact ho
    · rw [if_neg hA]; exact h.no A
def slen : AV → Option Nat
  | .nils | .sle => some 0
  | .sl _ _ n _ | .slu _ _ n _ => some n
  | _ => none
def Seen (H : Heap) (v : AV) (xs : List Int) : Prop := slen v = some xs.length ∧ (xs.length ≤ 1000 → Sl H v xs)
theorem Seen.mono {H H' : Heap} {v : AV} {xs : List Int} (h : Seen H v xs) (k : ∀ A, A < H.n → H'.get A = H.get A) : Seen H' v xs := ⟨h.1, fun hl => (h.2 hl).mono k⟩
theorem cell_zero {W : World} {a : Addr} {v : Value} (h : W.cell? (a.add 0) = some v) : a = ⟨a.block, a.off, none⟩ := by
  obtain ⟨b, o, s⟩ := a
  cases s with
  | none => rfl
  | some s =>
    unfold World.cell? at h
    simp only [Addr.add, if_true] at h
    split at h
    · simp at h
    · cases h
theorem cell_row {W : World} {b o i : Nat} {v : Value} (h : W.cell? (Addr.add ⟨b, o, none⟩ i) = some v) : ∃ carr ty fz, W.heap[b]? = some (.cells carr ty fz) ∧ carr[o + i]? = some v := by
  have e : Addr.add ⟨b, o, none⟩ i = ⟨b, o + i, none⟩ := by
    unfold Addr.add
    split
    · rename_i h0; subst h0; rfl
    · rfl
  rw [e] at h
  unfold World.cell? at h
  split at h
  · rename_i carr ty fz hc
    exact ⟨carr, ty, fz, hc, by simpa using h⟩
  · cases h
end Go.PI
