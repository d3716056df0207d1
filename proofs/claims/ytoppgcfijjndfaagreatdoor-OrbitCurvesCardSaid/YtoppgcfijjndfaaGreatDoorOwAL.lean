/- Own work of the verifier: PiQuick2. -/
import Derived.Test.YtoppgcfijjndfaaGreatDoorOwAK
set_option linter.all false
set_option exponentiation.threshold 3000
set_option linter.deprecated false
namespace Go.PI
theorem rangeF_mono {C : Ctx} {a b : Ih} (h : Ih.Le a b) {rd : Option Nat} {f : Operand} {ps : Array Tmp} {as bd : Code} {s : St} {r : Ex × St} (e : rangeF C a rd f ps as bd s = some r) : rangeF C b rd f ps as bd s = some r := by
  unfold rangeF at e ⊢
  split at e
  · cases e
  · rename_i hl
    rw [if_neg hl]
    split at e
    · rename_i g first caps ho
      try simp only [ho] at e ⊢
      split at e
      · cases e
      · rename_i hg
        rw [if_neg hg]
        split at e
        · rename_i D H1 Ds hst
          try simp only [hst] at e ⊢
          split at e
          · rename_i v H3 hc
            rw [callF_mono h hc]
            try simp only at e ⊢
            split at e
            · rename_i lp hlp
              try simp only [hlp] at e ⊢
              split at e
              · cases e
              · rename_i hb
                rw [if_neg hb]
                split at e
                · rename_i hp
                  try simp only [hp] at e ⊢
                  exact e
                · rename_i c hp
                  try simp only [hp] at e ⊢
                  exact h _ _ _ _ e
            · cases e
          · cases e
        · cases e
    · cases e
def lastQ : List (TT × Heap) → Option (TT × Heap)
  | [] => none
  | [x] => some x
  | _ :: xs => lastQ xs
theorem lastQ_eq (n : Nat) (tr : List (TT × Heap)) : lastOf (tr.map (asL n)) = (lastQ tr).map (asL n) := by
  induction tr with
  | nil => rfl
  | cons x xs ih =>
    cases xs with
    | nil => rfl
    | cons y ys => simpa [lastOf, lastQ] using ih
structure CQ where
  f : IhQ → Nat → Option Nat → QT → Option (Ex × QT)
def thenQ (r : Option (Ex × QT)) (k : QT → Option (Ex × QT)) : Option (Ex × QT) :=
  match r with
  | some (.normal, s') => k s'
  | r => r
def condQ (c : Option AV) (x y : Option (Ex × QT)) : Option (Ex × QT) :=
  match c with
  | some (.bool true) => x
  | some (.bool false) => y
  | _ => none
def blockQ (id : Nat) (r : Option (Ex × QT)) : Option (Ex × QT) :=
  match r with
  | some (.exit i, s') => if i = id then some (.normal, s') else some (.exit i, s')
  | r => r
def regQ (r : Option (TT × Heap)) (D : List Nat) : Option (Ex × QT) :=
  match r with
  | some (T', H') => some (.normal, ⟨T', H', D⟩)
  | none => none
def drawQ (C : Ctx) (n : Nat) (ops : List Oper) (r : Option (List (TT × Heap))) (D : List Nat) : Option (Ex × QT) :=
  match r with
  | some tr => cond ((drawD C n ops).f tr) (regQ (lastQ tr) D) none
  | none => none
noncomputable def loopQ (g : QT → Option (Ex × QT)) (k : Nat) : QT → Option (Ex × QT) :=
  Nat.rec (motive := fun _ => QT → Option (Ex × QT)) (fun _ => none) (fun _ again s => thenQ (g s) again) k
noncomputable def qC (C : Ctx) (n : Nat) : Code → CQ
  | .skip => ⟨fun _ _ _ s => some (.normal, s)⟩
  | .label _ => ⟨fun _ _ _ s => some (.normal, s)⟩
  | .seq a b => ⟨fun ih _ rd s => thenQ (ih n rd a s) (ih n rd b)⟩
  | .cond c a b => ⟨fun ih _ rd s => condQ ((qO n c).f s.t) (ih n rd a s) (ih n rd b s)⟩
  | .block id b => ⟨fun ih _ rd s => blockQ id (ih n rd b s)⟩
  | .loop b => ⟨fun ih k rd s => loopQ (ih n rd b) k s⟩
  | .exit id => ⟨fun _ _ _ s => some (.exit id, s)⟩
  | .goto l => ⟨fun _ _ _ s => some (.goto l, s)⟩
  | .ret => ⟨fun _ _ _ s => some (.ret, s)⟩
  | .region _ ops draw => match draw with
    | true => ⟨fun ih _ _ s => drawQ C n ops.toList ((qT C n ops.toList ops.toList).f ih s.t s.H) s.D⟩
    | false => ⟨fun ih _ _ s => regQ ((qR C n ops.toList ops.toList).f ih s.t s.H) s.D⟩
  | .rangeFunc f ps as bd => ⟨fun ih _ rd s => match rangeF C (slowQ ih) rd f ps as bd (s.st n) with
    | some (e, s') => if s'.T.length = n then some (e, ⟨ofA 0 zeroT s'.T, s'.H, s'.D⟩) else none
    | none => none⟩
  | _ => ⟨fun _ _ _ _ => none⟩
theorem loopQ_sim {ih : IhQ} {ihS : Ih} (hs : Sim ih ihS) {n : Nat} (hn : n ≤ 256) {rd : Option Nat} {b : Code} (k : Nat) : ∀ {q : QT} {e : Ex} {q' : QT}, loopQ (ih n rd b) k q = some (e, q') → loopF ihS rd b k (q.st n) = some (e, q'.st n) := by
  induction k with
  | zero => intro q e q' h; cases h
  | succ k ihk =>
    intro q e q' h
    change thenQ (ih n rd b q) (loopQ (ih n rd b) k) = _ at h
    unfold thenQ at h
    unfold loopF
    split at h
    · rename_i s' h1
      rw [hs _ hn _ _ _ _ _ h1]
      exact ihk h
    · rename_i h1
      rw [hs _ hn _ _ _ _ _ h]
      cases e <;> first | rfl | exact absurd h (h1 _)
theorem qC_sim {C : Ctx} {ih : IhQ} {ihS : Ih} (hs : Sim ih ihS) {n : Nat} (hn : n ≤ 256) {k : Nat} {rd : Option Nat} {c : Code} {q : QT} {e : Ex} {q' : QT} (h : (qC C n c).f ih k rd q = some (e, q')) : evF C ihS k rd c (q.st n) = some (e, q'.st n) := by
  cases c with
  | skip => cases h; rfl
  | label => cases h; rfl
  | exit => cases h; rfl
  | goto => cases h; rfl
  | ret => cases h; rfl
  | refuse => cases h
  | scope => cases h
  | seq a b =>
    simp only [qC, thenQ] at h
    simp only [evF]
    split at h
    · rename_i s' h1
      rw [hs _ hn _ _ _ _ _ h1]
      exact hs _ hn _ _ _ _ _ h
    · rename_i h1
      rw [hs _ hn _ _ _ _ _ h]
      cases e <;> first | rfl | exact absurd h (h1 _)
  | cond c a b =>
    simp only [qC, condQ, qO_eq] at h
    simp only [evF]
    split at h
    · rename_i h1
      have h1' : opd (q.st n).T c = some (.bool true) := h1
      rw [h1']
      exact hs _ hn _ _ _ _ _ h
    · rename_i h1
      have h1' : opd (q.st n).T c = some (.bool false) := h1
      rw [h1']
      exact hs _ hn _ _ _ _ _ h
    · cases h
  | block id b =>
    simp only [qC, blockQ] at h
    simp only [evF]
    split at h
    · rename_i i s' h1
      rw [hs _ hn _ _ _ _ _ h1]
      split at h <;> cases h <;> simp_all
    · rename_i h1
      rw [hs _ hn _ _ _ _ _ h]
      cases e <;> first | rfl | exact absurd h (h1 _ _)
  | loop b => exact loopQ_sim hs hn k h
  | region r ops draw =>
    cases draw with
    | true =>
      simp only [qC, drawQ] at h
      simp only [evF, if_true]
      split at h
      · rename_i tr h1
        have h2 := qT_sim hs hn h1
        have h2' : traceE C ihS ops.toList ops.toList (q.st n).T (q.st n).H = some (tr.map (asL n)) := h2
        rw [h2']
        cases hd : (drawD C n ops.toList).f tr with
        | false => rw [hd] at h; cases h
        | true =>
          rw [hd] at h
          have hd := drawD_ok hd
          simp only [hd, if_true, lastQ_eq]
          cases hl : lastQ tr with
          | none => rw [hl] at h; cases h
          | some p => rw [hl] at h; cases h; rfl
      · cases h
    | false =>
      simp only [qC, regQ] at h
      simp only [evF]
      split at h
      · rename_i T' H' h1
        have h2 : runE C ihS ops.toList ops.toList (q.st n).T (q.st n).H = _ := qR_sim hs hn h1
        rw [h2]
        cases h
        rfl
      · cases h
  | rangeFunc f ps as bd =>
    simp only [qC] at h
    simp only [evF]
    split at h
    · rename_i e1 s' h1
      split at h
      · rename_i hl
        cases h
        rw [rangeF_mono (slow_le hs) h1]
        unfold QT.st
        simp only
        subst hl
        rw [toL_ofL _ hn]
      · cases h
    · cases h
noncomputable def evQ (C : Ctx) (k : Nat) : IhQ := Nat.rec (motive := fun _ => IhQ) (fun _ _ _ _ => none) (fun k ih n rd c s => (qC C n c).f ih k rd s) k
theorem evQ_sim (C : Ctx) (k : Nat) : Sim (evQ C k) (ev C k) := by
  induction k with
  | zero => intro n _ rd c q e q' h; cases h
  | succ k ih => intro n hn rd c q e q' h; exact qC_sim ih hn h
noncomputable def quick (C : Ctx) (k : Nat) (f : FuncId) (args : List AV) (H : Heap) : Option (AV × Heap) := callQ C (evQ C k) f args H
theorem quick_sim {C : Ctx} {k : Nat} {f : FuncId} {args : List AV} {H : Heap} {r : AV × Heap} (h : quick C k f args H = some r) : call C k f args H = some r := callQ_sim (evQ_sim C k) h
end Go.PI
