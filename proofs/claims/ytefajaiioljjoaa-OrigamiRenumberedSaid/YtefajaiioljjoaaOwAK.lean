/- Own work of the verifier: PiQuick2 PiMono2 PiVc PiTabG PiGrow PvDefs. -/
import Derived.Test.YtefajaiioljjoaaOwAJ
import Derived.Test.YtefajaiioljjoaaOwAI
set_option linter.all false
set_option exponentiation.threshold 3000
set_option linter.deprecated false
namespace Go.PI
theorem rangeF_mono {C : Ctx} {a b : Ih} (h : Ih.Le a b) {rd : Option Nat} {f : Operand} {ps : Array Tmp} {as bd : Code} {s : St} {r : Ex × St} (e : rangeF C a rd f ps as bd s = some r) : rangeF C b rd f ps as bd s = some r := by
  unfold rangeF at e ⊢
  split at e
  · cases e
  · rename_i hl
    rw [if_neg hl]
    split at e
    · rename_i g first caps ho
      try simp only [ho] at e ⊢
      split at e
      · cases e
      · rename_i hg
        rw [if_neg hg]
        split at e
        · rename_i D H1 Ds hst
          try simp only [hst] at e ⊢
          split at e
          · rename_i v H3 hc
            rw [callF_mono h hc]
            try simp only at e ⊢
            split at e
            · rename_i lp hlp
              try simp only [hlp] at e ⊢
              split at e
              · cases e
              · rename_i hb
                rw [if_neg hb]
                split at e
                · rename_i hp
                  try simp only [hp] at e ⊢
                  exact e
                · rename_i c hp
                  try simp only [hp] at e ⊢
                  exact h _ _ _ _ e
            · cases e
          · cases e
        · cases e
    · cases e
def lastQ : List (TT × Heap) → Option (TT × Heap)
  | [] => none
  | [x] => some x
  | _ :: xs => lastQ xs
theorem lastQ_eq (n : Nat) (tr : List (TT × Heap)) : lastOf (tr.map (asL n)) = (lastQ tr).map (asL n) := by
  induction tr with
  | nil => rfl
  | cons x xs ih =>
    cases xs with
    | nil => rfl
    | cons y ys => simpa [lastOf, lastQ] using ih
structure CQ where
  f : IhQ → Nat → Option Nat → QT → Option (Ex × QT)
def thenQ (r : Option (Ex × QT)) (k : QT → Option (Ex × QT)) : Option (Ex × QT) :=
  match r with
  | some (.normal, s') => k s'
  | r => r
def condQ (c : Option AV) (x y : Option (Ex × QT)) : Option (Ex × QT) :=
  match c with
  | some (.bool true) => x
  | some (.bool false) => y
  | _ => none
def blockQ (id : Nat) (r : Option (Ex × QT)) : Option (Ex × QT) :=
  match r with
  | some (.exit i, s') => if i = id then some (.normal, s') else some (.exit i, s')
  | r => r
def regQ (r : Option (TT × Heap)) (D : List Nat) : Option (Ex × QT) :=
  match r with
  | some (T', H') => some (.normal, ⟨T', H', D⟩)
  | none => none
def drawQ (C : Ctx) (n : Nat) (ops : List Oper) (r : Option (List (TT × Heap))) (D : List Nat) : Option (Ex × QT) :=
  match r with
  | some tr => cond ((drawD C n ops).f tr) (regQ (lastQ tr) D) none
  | none => none
noncomputable def loopQ (g : QT → Option (Ex × QT)) (k : Nat) : QT → Option (Ex × QT) :=
  Nat.rec (motive := fun _ => QT → Option (Ex × QT)) (fun _ => none) (fun _ again s => thenQ (g s) again) k
noncomputable def qC (C : Ctx) (n : Nat) : Code → CQ
  | .skip => ⟨fun _ _ _ s => some (.normal, s)⟩
  | .label _ => ⟨fun _ _ _ s => some (.normal, s)⟩
  | .seq a b => ⟨fun ih _ rd s => thenQ (ih n rd a s) (ih n rd b)⟩
  | .cond c a b => ⟨fun ih _ rd s => condQ ((qO n c).f s.t) (ih n rd a s) (ih n rd b s)⟩
  | .block id b => ⟨fun ih _ rd s => blockQ id (ih n rd b s)⟩
  | .loop b => ⟨fun ih k rd s => loopQ (ih n rd b) k s⟩
  | .exit id => ⟨fun _ _ _ s => some (.exit id, s)⟩
  | .goto l => ⟨fun _ _ _ s => some (.goto l, s)⟩
  | .ret => ⟨fun _ _ _ s => some (.ret, s)⟩
  | .region _ ops draw => match draw with
    | true => ⟨fun ih _ _ s => drawQ C n ops.toList ((qT C n ops.toList ops.toList).f ih s.t s.H) s.D⟩
    | false => ⟨fun ih _ _ s => regQ ((qR C n ops.toList ops.toList).f ih s.t s.H) s.D⟩
  | .rangeFunc f ps as bd => ⟨fun ih _ rd s => match rangeF C (slowQ ih) rd f ps as bd (s.st n) with
    | some (e, s') => if s'.T.length = n then some (e, ⟨ofA 0 zeroT s'.T, s'.H, s'.D⟩) else none
    | none => none⟩
  | _ => ⟨fun _ _ _ _ => none⟩
theorem loopQ_sim {ih : IhQ} {ihS : Ih} (hs : Sim ih ihS) {n : Nat} (hn : n ≤ 256) {rd : Option Nat} {b : Code} (k : Nat) : ∀ {q : QT} {e : Ex} {q' : QT}, loopQ (ih n rd b) k q = some (e, q') → loopF ihS rd b k (q.st n) = some (e, q'.st n) := by
  induction k with
  | zero => intro q e q' h; cases h
  | succ k ihk =>
    intro q e q' h
    change thenQ (ih n rd b q) (loopQ (ih n rd b) k) = _ at h
    unfold thenQ at h
    unfold loopF
    split at h
    · rename_i s' h1
      rw [hs _ hn _ _ _ _ _ h1]
      exact ihk h
    · rename_i h1
      rw [hs _ hn _ _ _ _ _ h]
      cases e <;> first | rfl | exact absurd h (h1 _)
theorem qC_sim {C : Ctx} {ih : IhQ} {ihS : Ih} (hs : Sim ih ihS) {n : Nat} (hn : n ≤ 256) {k : Nat} {rd : Option Nat} {c : Code} {q : QT} {e : Ex} {q' : QT} (h : (qC C n c).f ih k rd q = some (e, q')) : evF C ihS k rd c (q.st n) = some (e, q'.st n) := by
  cases c with
  | skip => cases h; rfl
  | label => cases h; rfl
  | exit => cases h; rfl
  | goto => cases h; rfl
  | ret => cases h; rfl
  | refuse => cases h
  | scope => cases h
  | seq a b =>
    simp only [qC, thenQ] at h
    simp only [evF]
    split at h
    · rename_i s' h1
      rw [hs _ hn _ _ _ _ _ h1]
      exact hs _ hn _ _ _ _ _ h
    · rename_i h1
      rw [hs _ hn _ _ _ _ _ h]
      cases e <;> first | rfl | exact absurd h (h1 _)
  | cond c a b =>
    simp only [qC, condQ, qO_eq] at h
    simp only [evF]
    split at h
    · rename_i h1
      have h1' : opd (q.st n).T c = some (.bool true) := h1
      rw [h1']
      exact hs _ hn _ _ _ _ _ h
    · rename_i h1
      have h1' : opd (q.st n).T c = some (.bool false) := h1
      rw [h1']
      exact hs _ hn _ _ _ _ _ h
    · cases h
  | block id b =>
    simp only [qC, blockQ] at h
    simp only [evF]
    split at h
    · rename_i i s' h1
      rw [hs _ hn _ _ _ _ _ h1]
      split at h <;> cases h <;> simp_all
    · rename_i h1
      rw [hs _ hn _ _ _ _ _ h]
      cases e <;> first | rfl | exact absurd h (h1 _ _)
  | loop b => exact loopQ_sim hs hn k h
  | region r ops draw =>
    cases draw with
    | true =>
      simp only [qC, drawQ] at h
      simp only [evF, if_true]
      split at h
      · rename_i tr h1
        have h2 := qT_sim hs hn h1
        have h2' : traceE C ihS ops.toList ops.toList (q.st n).T (q.st n).H = some (tr.map (asL n)) := h2
        rw [h2']
        cases hd : (drawD C n ops.toList).f tr with
        | false => rw [hd] at h; cases h
        | true =>
          rw [hd] at h
          have hd := drawD_ok hd
          simp only [hd, if_true, lastQ_eq]
          cases hl : lastQ tr with
          | none => rw [hl] at h; cases h
          | some p => rw [hl] at h; cases h; rfl
      · cases h
    | false =>
      simp only [qC, regQ] at h
      simp only [evF]
      split at h
      · rename_i T' H' h1
        have h2 : runE C ihS ops.toList ops.toList (q.st n).T (q.st n).H = _ := qR_sim hs hn h1
        rw [h2]
        cases h
        rfl
      · cases h
  | rangeFunc f ps as bd =>
    simp only [qC] at h
    simp only [evF]
    split at h
    · rename_i e1 s' h1
      split at h
      · rename_i hl
        cases h
        rw [rangeF_mono (slow_le hs) h1]
        unfold QT.st
        simp only
        subst hl
        rw [toL_ofL _ hn]
      · cases h
    · cases h
noncomputable def evQ (C : Ctx) (k : Nat) : IhQ := Nat.rec (motive := fun _ => IhQ) (fun _ _ _ _ => none) (fun k ih n rd c s => (qC C n c).f ih k rd s) k
theorem evQ_sim (C : Ctx) (k : Nat) : Sim (evQ C k) (ev C k) := by
  induction k with
  | zero => intro n _ rd c q e q' h; cases h
  | succ k ih => intro n hn rd c q e q' h; exact qC_sim ih hn h
noncomputable def quick (C : Ctx) (k : Nat) (f : FuncId) (args : List AV) (H : Heap) : Option (AV × Heap) := callQ C (evQ C k) f args H
theorem quick_sim {C : Ctx} {k : Nat} {f : FuncId} {args : List AV} {H : Heap} {r : AV × Heap} (h : quick C k f args H = some r) : call C k f args H = some r := callQ_sim (evQ_sim C k) h
end Go.PI
/- MORE FUEL, THE SAME RUN. -/
namespace Go.PI
variable {C : Ctx} {a b : Ih}
theorem stepE_mono (h : Ih.Le a b) {ops : List Oper} {o : Oper} {T : List AV} {H : Heap} {r : List AV × Heap} (e : stepE C a ops o T H = some r) : stepE C b ops o T H = some r := by
  unfold stepE at e ⊢
  split at e
  · rename_i hw
    rw [if_pos hw]
    cases hx : execE C a T o H with
    | none => rw [hx] at e; cases e
    | some x => rw [hx] at e; rw [execE_mono h hx]; exact e
  · rename_i hw
    rw [if_neg hw]; exact e
theorem runE_mono (h : Ih.Le a b) {ops : List Oper} : ∀ {rest : List Oper} {T : List AV} {H : Heap} {r : List AV × Heap}, runE C a ops rest T H = some r → runE C b ops rest T H = some r
  | [], _, _, _, e => e
  | o :: rest, T, H, r, e => by
    unfold runE at e ⊢
    cases hx : stepE C a ops o T H with
    | none => rw [hx] at e; cases e
    | some x => rw [hx] at e; rw [stepE_mono h hx]; exact runE_mono h e
theorem traceE_mono (h : Ih.Le a b) {ops : List Oper} : ∀ {rest : List Oper} {T : List AV} {H : Heap} {r : List (List AV × Heap)}, traceE C a ops rest T H = some r → traceE C b ops rest T H = some r
  | [], _, _, _, e => e
  | o :: rest, T, H, r, e => by
    unfold traceE at e ⊢
    cases hx : stepE C a ops o T H with
    | none => rw [hx] at e; cases e
    | some x =>
      rw [hx] at e; rw [stepE_mono h hx]
      try simp only at e ⊢
      cases hy : traceE C a ops rest x.1 x.2 with
      | none => rw [hy] at e; cases e
      | some y => rw [hy] at e; rw [traceE_mono h hy]; exact e
theorem rangeF_mono2 (h : Ih.Le a b) {rd : Option Nat} {f : Operand} {ps : Array Tmp} {assign body : Code} {s : St} {r : Ex × St} (e : rangeF C a rd f ps assign body s = some r) : rangeF C b rd f ps assign body s = some r := by
  unfold rangeF at e ⊢
  split at e
  · cases e
  · rename_i hl
    rw [if_neg hl]
    split at e
    · rename_i g first caps hf
      try rw [hf]
      try simp only at e ⊢
      split at e
      · cases e
      · rename_i hg
        rw [if_neg hg]
        split at e
        · rename_i D H1 Ds hs
          try rw [hs]
          try simp only at e ⊢
          split at e
          · rename_i v H3 hc
            rw [callF_mono h hc]
            try simp only at e ⊢
            split at e
            · rename_i lp hlp
              try rw [hlp]
              try simp only at e ⊢
              split at e
              · cases e
              · rename_i hst
                rw [if_neg hst]
                split at e
                · rename_i hp; (try rw [hp]); exact e
                · rename_i c hp; (try rw [hp]); exact h _ _ _ _ e
            · cases e
          · cases e
        · cases e
    · cases e
theorem loopF_mono (h : Ih.Le a b) {rd : Option Nat} {c : Code} : ∀ {k k' : Nat} {s : St} {r : Ex × St}, k ≤ k' → loopF a rd c k s = some r → loopF b rd c k' s = some r
  | 0, _, _, _, _, e => by cases e
  | k + 1, k', s, r, hk, e => by
    obtain ⟨k', rfl⟩ : ∃ j, k' = j + 1 := ⟨k' - 1, by omega⟩
    unfold loopF at e ⊢
    split at e
    · rename_i s' hs
      rw [h _ _ _ _ hs]
      exact loopF_mono h (by omega) e
    · rename_i hne
      rw [h _ _ _ _ e]
      cases hr : r with
      | mk x s' => cases x <;> first | rfl | (exact absurd (e.trans (by rw [hr])) (hne s'))
theorem evF_mono (h : Ih.Le a b) {k k' : Nat} (hk : k ≤ k') {rd : Option Nat} {c : Code} {s : St} {r : Ex × St} (e : evF C a k rd c s = some r) : evF C b k' rd c s = some r := by
  cases c <;> simp only [evF] at e ⊢ <;> try exact e
  case seq x y =>
    split at e
    · rename_i s' hs; rw [h _ _ _ _ hs]; exact h _ _ _ _ e
    · rename_i hne
      rw [h _ _ _ _ e]
      cases hr : r with
      | mk x s' => cases x <;> first | rfl | (exact absurd (e.trans (by rw [hr])) (hne s'))
  case cond x y z =>
    split at e
    · rename_i hc; (try rw [hc]); exact h _ _ _ _ e
    · rename_i hc; (try rw [hc]); exact h _ _ _ _ e
    · cases e
  case block id x =>
    split at e
    · rename_i i s' hs; rw [h _ _ _ _ hs]; exact e
    · rename_i hne
      rw [h _ _ _ _ e]
      cases hr : r with
      | mk x s' => cases x <;> first | rfl | (exact absurd (e.trans (by rw [hr])) (hne _ s'))
  case loop x => exact loopF_mono h hk e
  case region id ops draw =>
    split at e
    · rename_i hd
      rw [if_pos hd]
      split at e
      · rename_i tr ht; rw [traceE_mono h ht]; exact e
      · cases e
    · rename_i hd
      rw [if_neg hd]
      split at e
      · rename_i T' H' ht; rw [runE_mono h ht]; exact e
      · cases e
  case rangeFunc f ps as bd => exact rangeF_mono2 h e
theorem ev_succ (n : Nat) : Ih.Le (ev C n) (ev C (n + 1)) := by
  induction n with
  | zero => intro rd c s r e; cases e
  | succ n ih => intro rd c s r e; exact evF_mono ih (Nat.le_succ n) e
theorem ev_mono {m n : Nat} (h : m ≤ n) : Ih.Le (ev C m) (ev C n) := by
  induction h with
  | refl => exact fun _ _ _ _ e => e
  | step _ ih => exact fun rd c s r e => ev_succ _ rd c s r (ih rd c s r e)
end Go.PI
/- WHAT IS TO BE SHOWN OF A PIECE OF CODE, COMPUTED FROM THE CODE. -/
namespace Go.PI
def Cl (C : Ctx) (g : FuncId) (as : List AV) (H : Heap) (Q : AV → Heap → Prop) : Prop := ∃ n v H', call C n g as H = some (v, H') ∧ Q v H'
theorem Cl.mono {C : Ctx} {g : FuncId} {as : List AV} {H : Heap} {Q R : AV → Heap → Prop} (h : Cl C g as H Q) (k : ∀ v H', Q v H' → R v H') : Cl C g as H R := by
  obtain ⟨n, v, H', h1, h2⟩ := h
  exact ⟨n, v, H', h1, k _ _ h2⟩
theorem Cl.of_sum {C : Ctx} {g : FuncId} {as : List AV} {H H' : Heap} {v : AV} {Q : AV → Heap → Prop} (h : sumE C g as H = some (v, H')) (hq : Q v H') : Cl C g as H Q :=
  ⟨0, v, H', by simp [call, callF, h], hq⟩
def In64 (n : Int) : Prop := -9223372036854775808 ≤ n ∧ n < 9223372036854775808
theorem wrap64 {n : Int} (h : In64 n) : IntKind.wrap .i64 n = n := by
  unfold In64 at h
  simp only [IntKind.wrap, IntKind.signed, IntKind.bits]
  simp
  omega
def vInt (op : BinOp) (m n : Int) (K : AV → Prop) : Prop :=
  match op with
  | .add => In64 (m + n) ∧ K (.int .i64 (m + n))
  | .sub => In64 (m - n) ∧ K (.int .i64 (m - n))
  | .mul => In64 (m * n) ∧ K (.int .i64 (m * n))
  | .quo => (n ≠ 0 ∧ In64 (m.tdiv n)) ∧ K (.int .i64 (m.tdiv n))
  | .rem => n ≠ 0 ∧ K (.int .i64 (m.tmod n))
  | .eql => (m = n → K (.bool true)) ∧ (m ≠ n → K (.bool false))
  | .neq => (m ≠ n → K (.bool true)) ∧ (m = n → K (.bool false))
  | .lss => (m < n → K (.bool true)) ∧ (n ≤ m → K (.bool false))
  | .leq => (m ≤ n → K (.bool true)) ∧ (n < m → K (.bool false))
  | .gtr => (n < m → K (.bool true)) ∧ (m ≤ n → K (.bool false))
  | .geq => (n ≤ m → K (.bool true)) ∧ (m < n → K (.bool false))
  | .and => ∃ v, intBin .and .i64 m n = some v ∧ K v
  | _ => False
theorem vInt_ok {op : BinOp} {m n : Int} {K : AV → Prop} (h : vInt op m n K) : ∃ v, intBin op .i64 m n = some v ∧ K v := by
  by_cases ha : op = .and
  · subst ha; exact h
  cases op <;> simp only [vInt] at h <;> simp only [intBin] <;> try (first | exact h.elim | exact absurd rfl ha)
  · exact ⟨_, by rw [wrap64 h.1], h.2⟩
  · exact ⟨_, by rw [wrap64 h.1], h.2⟩
  · exact ⟨_, by rw [wrap64 h.1], h.2⟩
  · exact ⟨_, by rw [if_neg h.1.1, wrap64 h.1.2], h.2⟩
  · exact ⟨_, by rw [if_neg h.1], h.2⟩
  · by_cases e : m = n
    · exact ⟨_, by simp [e], h.1 e⟩
    · exact ⟨_, by simp [e], h.2 e⟩
  · by_cases e : m = n
    · exact ⟨_, by simp [e], h.2 e⟩
    · exact ⟨_, by simp [e], h.1 e⟩
  · by_cases e : m < n
    · exact ⟨_, by simp [e], h.1 e⟩
    · exact ⟨_, by simp [e], h.2 (by omega)⟩
  · by_cases e : m ≤ n
    · exact ⟨_, by simp [e], h.1 e⟩
    · exact ⟨_, by simp [e], h.2 (by omega)⟩
  · by_cases e : n < m
    · exact ⟨_, by simp [e], h.1 e⟩
    · exact ⟨_, by simp [e], h.2 (by omega)⟩
  · by_cases e : n ≤ m
    · exact ⟨_, by simp [e], h.1 e⟩
    · exact ⟨_, by simp [e], h.2 (by omega)⟩
theorem lastOf_cons (x : List AV × Heap) {tr : List (List AV × Heap)} {y : List AV × Heap} (h : lastOf tr = some y) : lastOf (x :: tr) = some y := by
  cases tr with
  | nil => cases h
  | cons a b => exact h
def Runs (C : Ctx) (rd : Option Nat) (c : Code) (s : St) (Q : Ex → St → Prop) : Prop := ∃ n e s', ev C n rd c s = some (e, s') ∧ Q e s'
theorem Runs.mono {C : Ctx} {rd : Option Nat} {c : Code} {s : St} {Q R : Ex → St → Prop} (h : Runs C rd c s Q) (k : ∀ e s', Q e s' → R e s') : Runs C rd c s R := by
  obtain ⟨n, e, s', h1, h2⟩ := h
  exact ⟨n, e, s', h1, k _ _ h2⟩
end Go.PI
/- A CALL WITHOUT ARGUMENTS that was seen to end true, as a summary. -/
namespace Go.PI
theorem frame_closed {μ : M} {H H1 : Heap} {w w' : World} {v : AV} {u : Value} (hH : HR μ H w) (hv : ∀ μ1, VR μ1 v u → VR μ v u) (h : EffR (fun _ => none) ⟨0, .nil⟩ w v H1 u w') : EffR μ H w v H u w' := by
  obtain ⟨μ1, h1, h2, hF⟩ := h
  have hk : ∀ k, k < w.heap.size → w'.heap[k]? = w.heap[k]? := fun k hk => (hF.keep k hk (by rintro ⟨A, a, -, hm, -⟩; cases hm)).1
  refine ⟨μ, hv _ h1, ⟨hH.lim, hH.dom, fun A bi hA hm => ?_, hH.inj⟩, M.le.refl _, fun _ _ => rfl, Nat.le_refl _, hF.os, hF.tape, hF.output, hF.size, fun k hk' ho => ⟨hk k hk', ho⟩, fun A hl ho => ⟨Heap.lt_of_get (fun e => by rw [e] at hl; cases hl), rfl⟩⟩
  obtain ⟨g1, g2⟩ := hH.blk A bi hA hm
  refine ⟨Nat.lt_of_lt_of_le g1 hF.size, ?_⟩
  generalize H.get A = x at g2
  cases x with
  | dead => trivial
  | dfr => exact (hk _ g1).trans g2
  | cells rw ty cs =>
    obtain ⟨carr, fz, q1, q2⟩ := g2
    exact ⟨carr, fz, (hk _ g1).trans q1, q2⟩
  | loop L =>
    obtain ⟨lp, q1, q2⟩ := g2
    exact ⟨lp, (hk _ g1).trans q1, q2⟩
  | map k es =>
    obtain ⟨ms, clock, q1, q2⟩ := g2
    exact ⟨ms, clock, (hk _ g1).trans q1, q2⟩
  | smap es =>
    obtain ⟨ms, clock, q1, q2⟩ := g2
    exact ⟨ms, clock, (hk _ g1).trans q1, q2⟩
  | siter s pos => exact ⟨g2.1, (hk _ g1).trans g2.2⟩
def SumR (P : Program) (f : FuncId) (S : List AV → Heap → Option (AV × Heap)) : Prop := ∀ us H v H', S us H = some (v, H') → ∀ μ (args : Array Value) w, VRs μ us args.toList → HR μ H w → CallR P μ H w f args v H'
theorem Ctx.plus_ok2 {P : Program} {C : Ctx} (hC : Ctx.Ok P C) {T : FuncId → Option (List AV → Heap → Option (AV × Heap))} (h : ∀ f S, T f = some S → C.sum f = some S ∨ SumR P f S) : Ctx.Ok P (C.plus T) where
  ty := hC.ty
  fn := hC.fn
  same := hC.same
  noZero := hC.noZero
  mixed := hC.mixed
  eqs := hC.eqs
  sum := by
    intro f S us H v H' hf hS μ args w ha hH
    rcases h f S hf with h | h
    · exact hC.sum f S us H v H' h hS μ args w ha hH
    · exact h us H v H' hS μ args w ha hH
theorem closed_true {P : Program} {C : Ctx} (hC : Ctx.Ok P C) {n : Nat} {f : FuncId} {H1 : Heap} (h : call C n f [] ⟨0, .nil⟩ = some (.bool true, H1)) : SumR P f fun us H => match us with
    | [] => some (.bool true, H)
    | _ => none := by
  intro us H v H' hS μ args w ha hH
  cases us with
  | cons a b => cases hS
  | nil =>
    cases hS
    have h0 : HR (fun _ => none) ⟨0, .nil⟩ w := ⟨by simp [PI.lim], fun _ _ => rfl, fun A bi hl hm => (by cases hm), fun A B a b _ _ _ hm => (by cases hm)⟩
    have ha0 : VRs (fun _ => none) [] args.toList := by
      generalize args.toList = l at ha
      cases ha
      exact .nil
    have hb : ∀ u, (∀ μ1, VR μ1 (.bool true) u → VR μ (.bool true) u) := fun u μ1 h => by cases h; exact .bool _
    rcases callF_sim hC (sound hC n) h ha0 h0 with ⟨u, w', h1, h2⟩ | ⟨h1, h2⟩
    · exact .inl ⟨u, w', h1, frame_closed hH (hb u) h2⟩
    · refine .inr ⟨h1, fun F m hF => (h2 F m hF).mono ?_⟩
      rintro e w' ⟨u, rfl, hE⟩
      exact ⟨u, rfl, frame_closed hH (hb u) hE⟩
def sTrue (us : List AV) (H : Heap) : Option (AV × Heap) :=
  match us with
  | [] => some (.bool true, H)
  | _ => none
def isTrue (x : Option (AV × Heap)) : Bool := match x with | some (.bool true, _) => true | _ => false
theorem isTrue_some {x : Option (AV × Heap)} (h : isTrue x = true) : ∃ H, x = some (.bool true, H) := by
  unfold isTrue at h
  split at h
  · exact ⟨_, rfl⟩
  · cases h
end Go.PI
/- A REGION WHOSE ORDER IS OPEN, in which memory only grows but for the last operation. -/
namespace Go.PI
def ldsP (C : Ctx) (ops : List Oper) (H0 : Heap) : List Oper → List (List AV × Heap) → Prop
  | o :: os, (T, _) :: tr => (match o.op with
    | .load t x => (match Region.wanted o (ayielded ops T) with
      | true => ∃ b off v, opd T x = some (.ptr b off) ∧ b < H0.n ∧ loadE C t (.ptr b off) H0 = some v ∧ v.same v = true
      | false => True)
    | _ => True) ∧ ldsP C ops H0 os tr
  | _, _ => True
def mnP : List (List AV × Heap) → Prop
  | [] => True
  | [_] => True
  | x :: y :: r => x.2.n ≤ y.2.n ∧ mnP (y :: r)
def isLoad (o : Oper) : Bool :=
  match o.op with
  | .load _ _ => true
  | _ => false
theorem load_get {C : Ctx} {t : TypeId} {b o : Nat} {H H' : Heap} (h : H'.get b = H.get b) : loadE C t (.ptr b o) H' = loadE C t (.ptr b o) H := by
  cases ht : C.ty t with
  | none => simp only [loadE, ht]
  | some i => simp only [loadE, ht, h]
theorem mono_of : ∀ {tr : List (List AV × Heap)}, mnP tr → monoOk tr = true
  | [], _ => rfl
  | [_], _ => rfl
  | (_, H) :: (T, H') :: r, h => by
    have := mono_of (tr := (T, H') :: r) h.2
    simp only [monoOk, this, Bool.and_true, decide_eq_true_eq]
    exact h.1
end Go.PI
/- PLAIN VALUES: slices that nobody writes any more stand for their contents; blocks of a function's own stand in a store. -/
namespace Go.PI
inductive PV where
  | int (k : IntKind) (n : Int)
  | bool (b : Bool)
  | str (s : ByteArray)
  | nilp
  | nilf
  | nilm
  | nili
  | fn (f : Nat)
  /-- a function with what it has captured -/
  | fnc (f : Nat) (cs : List PV)
  /-- a map of our own -/
  | omap (i : Nat)
  /-- the body of a loop over a function -/
  | yld (i : Nat)
  | nils
  /-- a slice of n elements with these cells -/
  | lst (n : Nat) (cs : List PV)
  /-- a pointer to these cells -/
  | lptr (cs : List PV)
  /-- a slice of a block of our own; e is the size of an element -/
  | own (i o n c e : Nat)
  /-- one that append has made -/
  | ownu (i n e : Nat)
  /-- one that append has made, without its first elements -/
  | ownq (i o n e : Nat)
  | optr (i o : Nat)
  /-- a pointer to cells that are not ours to write, and that is ours for the length of a call -/
  | bptr (cs : List PV)
  | agg (cs : List PV)
  | tup (vs : List PV)
  deriving Inhabited
abbrev pn (n : Int) : PV := .int .i64 n
def undefP : PV := .tup []
inductive RelC (H : Heap) (W : Nat → Prop) : PV → AV → Prop
  | int (k : IntKind) (n : Int) : RelC H W (.int k n) (.int k n)
  | bool (b : Bool) : RelC H W (.bool b) (.bool b)
  | str (s : ByteArray) : RelC H W (.str s) (.str s)
  | nilp : RelC H W .nilp .nilp
  | nilf : RelC H W .nilf .nilf
  | nilm : RelC H W .nilm .nilm
  | nili : RelC H W .nili .nili
  | fn (f : Nat) : RelC H W (.fn f) (.fn f [] [])
  | fnc (f : Nat) {cs : List PV} {as : List AV} (h : All2 (RelC H W) cs as) : RelC H W (.fnc f cs) (.fn f [] as)
  | lnil : RelC H W (.lst 0 []) .nils
  | lsle : RelC H W (.lst 0 []) .sle
  | sl {n : Nat} {cs : List PV} {b o c : Nat} {rw : Bool} {ty : TypeId} {bcs : List AV} (hW : ¬ W b) (hg : H.get b = .cells rw ty bcs) (hb : o + cs.length ≤ bcs.length) (hc : n ≤ c) (h : All2 (RelC H W) cs ((bcs.drop o).take cs.length)) : RelC H W (.lst n cs) (.sl b o n c)
  | slu {n : Nat} {cs : List PV} {b o e : Nat} {rw : Bool} {ty : TypeId} {bcs : List AV} (hW : ¬ W b) (hg : H.get b = .cells rw ty bcs) (hb : o + cs.length ≤ bcs.length) (he : cs.length = n * e ∧ (n = 0 → e = 1)) (h : All2 (RelC H W) cs ((bcs.drop o).take cs.length)) : RelC H W (.lst n cs) (.slu b o n e)
  | lptr {cs : List PV} {b o : Nat} {rw : Bool} {ty : TypeId} {bcs : List AV} (hW : ¬ W b) (hg : H.get b = .cells rw ty bcs) (hb : o + cs.length ≤ bcs.length) (h : All2 (RelC H W) cs ((bcs.drop o).take cs.length)) : RelC H W (.lptr cs) (.ptr b o)
  | agg {cs : List PV} {as : List AV} (h : All2 (RelC H W) cs as) : RelC H W (.agg cs) (.agg as)
  | tup {cs : List PV} {as : List AV} (h : All2 (RelC H W) cs as) : RelC H W (.tup cs) (.tup as)
inductive RelV (H : Heap) (W : Nat → Prop) (β : List Nat) : PV → AV → Prop
  | clo {p : PV} {a : AV} (h : RelC H W p a) : RelV H W β p a
  | nils : RelV H W β .nils .nils
  | fnc (f : Nat) {cs : List PV} {as : List AV} (h : All2 (RelV H W β) cs as) : RelV H W β (.fnc f cs) (.fn f [] as)
  | omap {i b : Nat} (h : β[i]? = some b) : RelV H W β (.omap i) (.mp b)
  | yld {i b : Nat} (h : β[i]? = some b) : RelV H W β (.yld i) (.yld b)
  | own {i b : Nat} (o n c e : Nat) (h : β[i]? = some b) : RelV H W β (.own i o n c e) (.sl b o n c)
  | ownu {i b : Nat} (n e : Nat) (h : β[i]? = some b) : RelV H W β (.ownu i n e) (.slu b 0 n e)
  | ownq {i b : Nat} (o n e : Nat) (h : β[i]? = some b) : RelV H W β (.ownq i o n e) (.slu b o n e)
  | optr {i b : Nat} (o : Nat) (h : β[i]? = some b) : RelV H W β (.optr i o) (.ptr b o)
  | bptr {cs : List PV} {b o : Nat} {rw : Bool} {ty : TypeId} {bcs : List AV} (hn : ∀ i : Nat, β[i]? ≠ some b) (hg : H.get b = .cells rw ty bcs) (hb : o + cs.length ≤ bcs.length) (h : All2 (RelC H W) cs ((bcs.drop o).take cs.length)) : RelV H W β (.bptr cs) (.ptr b o)
  | agg {cs : List PV} {as : List AV} (h : All2 (RelV H W β) cs as) : RelV H W β (.agg cs) (.agg as)
  | tup {cs : List PV} {as : List AV} (h : All2 (RelV H W β) cs as) : RelV H W β (.tup cs) (.tup as)
theorem Heap.lt_cells {H : Heap} {b : Nat} {rw : Bool} {ty : TypeId} {cs : List AV} (h : H.get b = .cells rw ty cs) : b < H.n := Heap.lt_of_get (by rw [h]; simp)
structure Ext (W : Nat → Prop) (β : List Nat) (H : Heap) (W' : Nat → Prop) (β' : List Nat) (H' : Heap) : Prop where
  n : H.n ≤ H'.n
  get : ∀ A, A < H.n → ¬ W A → H'.get A = H.get A
  w : ∀ A, A < H.n → W' A → W A
  bt : ∀ (i b : Nat), β[i]? = some b → β'[i]? = some b
  o : ∀ A, A < H.n → (∀ i : Nat, β[i]? ≠ some A) → H'.get A = H.get A
  bk : ∀ (i x : Nat), β'[i]? = some x → x < H.n → ∃ j : Nat, β[j]? = some x
theorem Ext.refl (W : Nat → Prop) (β : List Nat) (H : Heap) : Ext W β H W β H := ⟨Nat.le_refl _, fun _ _ _ => rfl, fun _ _ h => h, fun _ _ h => h, fun _ _ _ => rfl, fun i _ h _ => ⟨i, h⟩⟩
theorem Ext.trans {W W' W'' : Nat → Prop} {β β' β'' : List Nat} {H H' H'' : Heap} (h : Ext W β H W' β' H') (k : Ext W' β' H' W'' β'' H'') : Ext W β H W'' β'' H'' :=
  ⟨Nat.le_trans h.n k.n, fun A hA hW => by rw [k.get A (Nat.lt_of_lt_of_le hA h.n) fun hw => hW (h.w A hA hw), h.get A hA hW], fun A hA hw => h.w A hA (k.w A (Nat.lt_of_lt_of_le hA h.n) hw), fun i b hb => k.bt i b (h.bt i b hb), fun A hA hn => by
    rw [k.o A (Nat.lt_of_lt_of_le hA h.n) (fun i hi => by obtain ⟨j, hj⟩ := h.bk i A hi hA; exact hn j hj), h.o A hA hn],
   fun i x hx hl => by
    obtain ⟨j, hj⟩ := k.bk i x hx (Nat.lt_of_lt_of_le hl h.n)
    exact h.bk j x hj hl⟩
theorem RelC.mono {H H' : Heap} {W W' : Nat → Prop} (hg : ∀ A, A < H.n → ¬ W A → H'.get A = H.get A) (hw : ∀ A, A < H.n → W' A → W A) {p : PV} {a : AV} (h : RelC H W p a) : RelC H' W' p a := by
  induction h using RelC.rec (motive_2 := fun ps as _ => All2 (RelC H' W') ps as) with
  | int k n => exact .int k n
  | bool b => exact .bool b
  | str s => exact .str s
  | nilp => exact .nilp
  | nilf => exact .nilf
  | nilm => exact .nilm
  | nili => exact .nili
  | fn f => exact .fn f
  | fnc f _ ih => exact .fnc f ih
  | lnil => exact .lnil
  | lsle => exact .lsle
  | sl hW h1 hb hc _ ih => exact .sl (fun x => hW (hw _ (Heap.lt_cells h1) x)) ((hg _ (Heap.lt_cells h1) hW).trans h1) hb hc ih
  | slu hW h1 hb hc _ ih => exact .slu (fun x => hW (hw _ (Heap.lt_cells h1) x)) ((hg _ (Heap.lt_cells h1) hW).trans h1) hb hc ih
  | lptr hW h1 hb _ ih => exact .lptr (fun x => hW (hw _ (Heap.lt_cells h1) x)) ((hg _ (Heap.lt_cells h1) hW).trans h1) hb ih
  | agg _ ih => exact .agg ih
  | tup _ ih => exact .tup ih
  | nil => exact .nil
  | cons _ _ i1 i2 => exact .cons i1 i2
theorem RelC.ext {H H' : Heap} {W W' : Nat → Prop} {β β' : List Nat} (e : Ext W β H W' β' H') {p : PV} {a : AV} (h : RelC H W p a) : RelC H' W' p a := h.mono e.get e.w
theorem RelCs.ext {H H' : Heap} {W W' : Nat → Prop} {β β' : List Nat} (e : Ext W β H W' β' H') {ps : List PV} {as : List AV} (h : All2 (RelC H W) ps as) : All2 (RelC H' W') ps as := All2.mono' (fun _ _ => RelC.ext e) h
theorem RelV.ext {H H' : Heap} {W W' : Nat → Prop} {β β' : List Nat} (e : Ext W β H W' β' H') {p : PV} {a : AV} (h : RelV H W β p a) : RelV H' W' β' p a := by
  induction h using RelV.rec (motive_2 := fun ps as _ => All2 (RelV H' W' β') ps as) with
  | clo h => exact .clo (h.ext e)
  | nils => exact .nils
  | fnc f _ ih => exact .fnc f ih
  | omap h => exact .omap (e.bt _ _ h)
  | yld h => exact .yld (e.bt _ _ h)
  | own o n c z h => exact .own o n c z (e.bt _ _ h)
  | ownu n z h => exact .ownu n z (e.bt _ _ h)
  | ownq o n z h => exact .ownq o n z (e.bt _ _ h)
  | optr o h => exact .optr o (e.bt _ _ h)
  | bptr hn hg hb h => exact .bptr (fun i hi => by obtain ⟨j, hj⟩ := e.bk i _ hi (Heap.lt_cells hg); exact hn j hj) ((e.o _ (Heap.lt_cells hg) hn).trans hg) hb (RelCs.ext e h)
  | agg _ ih => exact .agg ih
  | tup _ ih => exact .tup ih
  | nil => exact .nil
  | cons _ _ i1 i2 => exact .cons i1 i2
theorem RelVs.ext {H H' : Heap} {W W' : Nat → Prop} {β β' : List Nat} (e : Ext W β H W' β' H') {ps : List PV} {as : List AV} (h : All2 (RelV H W β) ps as) : All2 (RelV H' W' β') ps as := All2.mono' (fun _ _ => RelV.ext e) h
theorem RelVs.clo {H : Heap} {W : Nat → Prop} {β : List Nat} {ps : List PV} {as : List AV} (h : All2 (RelC H W) ps as) : All2 (RelV H W β) ps as := All2.mono' (fun _ _ h => .clo h) h
def EntP (H : Heap) (W : Nat → Prop) (e : Int × PV) (a : Int × AV) : Prop := e.1 = a.1 ∧ RelC H W e.2 a.2
theorem EntPs.ext {H H' : Heap} {W W' : Nat → Prop} {β β' : List Nat} (e : Ext W β H W' β' H') {ps : List (Int × PV)} {as : List (Int × AV)} (h : All2 (EntP H W) ps as) : All2 (EntP H' W') ps as := All2.mono' (fun _ _ h => ⟨h.1, h.2.ext e⟩) h
structure LpD where
  st : LoopState
  e : Ex
  T : List PV
  ps : Array Tmp
  as : Code
  bd : Code
structure LpD.Is (H : Heap) (W : Nat → Prop) (β : List Nat) (x : LpD) (L : ALoop) : Prop where
  st : L.state = x.st
  e : L.pending = x.e.jump
  ps : L.params = x.ps
  as : L.assign = x.as
  bd : L.body = x.bd
  T : All2 (RelV H W β) x.T L.tmps
theorem LpD.Is.ext {H H' : Heap} {W W' : Nat → Prop} {β β' : List Nat} (e : Ext W β H W' β' H') {x : LpD} {L : ALoop} (h : x.Is H W β L) : x.Is H' W' β' L := ⟨h.st, h.e, h.ps, h.as, h.bd, RelVs.ext e h.T⟩
inductive StB where
  | dead
  | live (ty : TypeId) (cs : List PV)
  | frz (ty : TypeId) (cs : List PV)
  /-- one whose cells may be slices and pointers of our own -/
  | liv (ty : TypeId) (cs : List PV)
  /-- a map -/
  | mp (k : IntKind) (es : List (Int × PV))
  | lp (x : LpD)
def StB.cont : StB → Option (TypeId × List PV)
  | .dead => none
  | .live t cs => some (t, cs)
  | .frz t cs => some (t, cs)
  | .liv _ _ => none
  | .mp _ _ => none
  | .lp _ => none
def livOf (σ : List StB) (i : Nat) : Option (TypeId × List PV) :=
  match σ[i]? with
  | some (.liv t cs) => some (t, cs)
  | _ => none
def contOf (σ : List StB) (i : Nat) : Option (TypeId × List PV) :=
  match σ[i]? with
  | some b => b.cont
  | none => none
structure Sto (H0 : Heap) (W0 : Nat → Prop) (c : Nat) (σ : List StB) (k : Nat) (W : Nat → Prop) (β : List Nat) (H : Heap) : Prop where
  room : H0.n + c < lim
  kc : k ≤ c
  lo : H0.n ≤ H.n
  hi : H.n ≤ H0.n + k
  keep : ∀ A, A < H0.n → H.get A = H0.get A
  w0n : ∀ b, W0 b → b < H0.n
  w0 : ∀ b, W0 b → W b
  wn : ∀ b, W b → W0 b ∨ (H0.n ≤ b ∧ b < H.n)
  len : β.length = σ.length
  bl : ∀ (i b : Nat), β[i]? = some b → H0.n ≤ b ∧ b < H.n
  live : ∀ (i : Nat) (ty : TypeId) (cs : List PV) (b : Nat), σ[i]? = some (.live ty cs) → β[i]? = some b → W b ∧ ∃ acs, H.get b = .cells true ty acs ∧ All2 (RelC H W) cs acs
  frz : ∀ (i : Nat) (ty : TypeId) (cs : List PV) (b : Nat), σ[i]? = some (.frz ty cs) → β[i]? = some b → ¬ W b ∧ ∃ rw acs, H.get b = .cells rw ty acs ∧ All2 (RelC H W) cs acs
  inj : ∀ (i j b : Nat), β[i]? = some b → β[j]? = some b → i = j
  liv : ∀ (i : Nat) (ty : TypeId) (cs : List PV) (b : Nat), σ[i]? = some (.liv ty cs) → β[i]? = some b → W b ∧ ∃ acs, H.get b = .cells true ty acs ∧ All2 (RelV H W β) cs acs
  map : ∀ (i : Nat) (kd : IntKind) (es : List (Int × PV)) (b : Nat), σ[i]? = some (.mp kd es) → β[i]? = some b → W b ∧ ∃ aes, H.get b = .map kd aes ∧ All2 (EntP H W) es aes
  lop : ∀ (i : Nat) (l : LpD) (b : Nat), σ[i]? = some (.lp l) → β[i]? = some b → W b ∧ ∃ L, H.get b = .loop L ∧ l.Is H W β L
theorem Sto.blk {H0 H : Heap} {W0 : Nat → Prop} {c k : Nat} {σ : List StB} {W : Nat → Prop} {β : List Nat} (I : Sto H0 W0 c σ k W β H) {i : Nat} {b : StB} (h : σ[i]? = some b) : ∃ n, β[i]? = some n := by
  have := (List.getElem?_eq_some_iff.1 h).1
  exact ⟨_, List.getElem?_eq_getElem (by have := I.len; omega)⟩
theorem Sto.cont {H0 H : Heap} {W0 : Nat → Prop} {c k : Nat} {σ : List StB} {W : Nat → Prop} {β : List Nat} (I : Sto H0 W0 c σ k W β H) {i : Nat} {ty : TypeId} {cs : List PV} {b : Nat} (h : contOf σ i = some (ty, cs)) (hb : β[i]? = some b) :
    ∃ rw acs, H.get b = .cells rw ty acs ∧ All2 (RelC H W) cs acs := by
  unfold contOf at h
  cases hs : σ[i]? with
  | none => rw [hs] at h; cases h
  | some x =>
    rw [hs] at h
    cases x with
    | dead => cases h
    | live t l => cases h; obtain ⟨-, acs, h1, h2⟩ := I.live i _ _ b hs hb; exact ⟨true, acs, h1, h2⟩
    | frz t l => cases h; obtain ⟨-, h1⟩ := I.frz i _ _ b hs hb; exact h1
    | liv t l => cases h
    | mp t l => cases h
    | lp l => cases h
theorem Sto.freeze {H0 H : Heap} {W0 : Nat → Prop} {c k : Nat} {σ : List StB} {W : Nat → Prop} {β : List Nat} (I : Sto H0 W0 c σ k W β H) {i : Nat} {ty : TypeId} {cs : List PV} (h : contOf σ i = some (ty, cs)) :
    ∃ W' b, β[i]? = some b ∧ Ext W β H W' β H ∧ Sto H0 W0 c (σ.set i (.frz ty cs)) k W' β H ∧ ¬ W' b ∧ ∃ rw acs, H.get b = .cells rw ty acs ∧ All2 (RelC H W') cs acs := by
  have hi : ∃ x, σ[i]? = some x := by
    unfold contOf at h
    cases hs : σ[i]? with
    | none => rw [hs] at h; cases h
    | some x => exact ⟨x, rfl⟩
  obtain ⟨x, hx⟩ := hi
  obtain ⟨b, hb⟩ := I.blk hx
  obtain ⟨rw, acs, h1, h2⟩ := I.cont h hb
  have E : Ext W β H (fun A => W A ∧ A ≠ b) β H := ⟨Nat.le_refl _, fun _ _ _ => rfl, fun A _ h => h.1, fun _ _ h => h, fun _ _ _ => rfl, fun i _ h _ => ⟨i, h⟩⟩
  refine ⟨fun A => W A ∧ A ≠ b, b, hb, E, ⟨I.room, I.kc, I.lo, I.hi, I.keep, I.w0n, fun A h => ⟨I.w0 A h, fun e => by have h1 := I.w0n A h; have h2 := (I.bl i b hb).1; omega⟩, fun A h => I.wn A h.1, by simp [I.len], I.bl, fun j t l d hj hd => ?_, fun j t l d hj hd => ?_, I.inj, fun j t l d hj hd => ?_, fun j t l d hj hd => ?_, fun j l d hj hd => ?_⟩, fun h => h.2 rfl, rw, acs, h1, RelCs.ext E h2⟩
  · have hji : j ≠ i := fun e => by
      subst e
      rw [List.getElem?_set_self (List.getElem?_eq_some_iff.1 hx).1] at hj
      cases hj
    rw [List.getElem?_set_ne (Ne.symm hji)] at hj
    obtain ⟨q1, q2, q3, q4⟩ := I.live j t l d hj hd
    exact ⟨⟨q1, fun e => by subst e; exact hji (I.inj j i _ hd hb)⟩, q2, q3, RelCs.ext E q4⟩
  · by_cases hji : j = i
    · subst hji
      rw [List.getElem?_set_self (List.getElem?_eq_some_iff.1 hx).1] at hj
      cases hj
      rw [hb] at hd
      cases hd
      exact ⟨fun h => h.2 rfl, rw, acs, h1, RelCs.ext E h2⟩
    · rw [List.getElem?_set_ne (Ne.symm hji)] at hj
      obtain ⟨q1, q2, q3, q4, q5⟩ := I.frz j t l d hj hd
      exact ⟨fun h => q1 h.1, q2, q3, q4, RelCs.ext E q5⟩
  · have hji : j ≠ i := fun e => by
      subst e
      rw [List.getElem?_set_self (List.getElem?_eq_some_iff.1 hx).1] at hj
      cases hj
    rw [List.getElem?_set_ne (Ne.symm hji)] at hj
    obtain ⟨q1, q2, q3, q4⟩ := I.liv j t l d hj hd
    exact ⟨⟨q1, fun e => by subst e; exact hji (I.inj j i _ hd hb)⟩, q2, q3, RelVs.ext E q4⟩
  · have hji : j ≠ i := fun e => by
      subst e
      rw [List.getElem?_set_self (List.getElem?_eq_some_iff.1 hx).1] at hj
      cases hj
    rw [List.getElem?_set_ne (Ne.symm hji)] at hj
    obtain ⟨q1, q2, q3, q4⟩ := I.map j t l d hj hd
    exact ⟨⟨q1, fun e => by subst e; exact hji (I.inj j i _ hd hb)⟩, q2, q3, EntPs.ext E q4⟩
  · have hji : j ≠ i := fun e => by
      subst e
      rw [List.getElem?_set_self (List.getElem?_eq_some_iff.1 hx).1] at hj
      cases hj
    rw [List.getElem?_set_ne (Ne.symm hji)] at hj
    obtain ⟨q1, q2, q3, q4⟩ := I.lop j l d hj hd
    exact ⟨⟨q1, fun e => by subst e; exact hji (I.inj j i _ hd hb)⟩, q2, q3, q4.ext E⟩
def frzK (σ : List StB) (p : PV) (K : PV → List StB → Prop) : Prop :=
  match p with
  | .own i o n c e => ∃ ty cs cs', contOf σ i = some (ty, cs) ∧ (o + n * e ≤ cs.length ∧ n ≤ c) ∧ (cs.drop o).take (n * e) = cs' ∧ K (.lst n cs') (σ.set i (.frz ty cs))
  | .ownu i n e => ∃ ty cs cs', contOf σ i = some (ty, cs) ∧ (n * e ≤ cs.length ∧ (n = 0 → e = 1)) ∧ cs.take (n * e) = cs' ∧ K (.lst n cs') (σ.set i (.frz ty cs))
  | .ownq i o n e => ∃ ty cs cs', contOf σ i = some (ty, cs) ∧ (o + n * e ≤ cs.length ∧ (n = 0 → e = 1)) ∧ (cs.drop o).take (n * e) = cs' ∧ K (.lst n cs') (σ.set i (.frz ty cs))
  | .optr i o => ∃ ty cs, contOf σ i = some (ty, cs) ∧ o ≤ cs.length ∧ K (.lptr (cs.drop o)) (σ.set i (.frz ty cs))
  | .nils => K (.lst 0 []) σ
  | .int k n => K (.int k n) σ
  | .bool b => K (.bool b) σ
  | .str s => K (.str s) σ
  | .nilp => K .nilp σ
  | .nilf => K .nilf σ
  | .nilm => K .nilm σ
  | .nili => K .nili σ
  | .fn f => K (.fn f) σ
  | .lst n cs => K (.lst n cs) σ
  | .lptr cs => K (.lptr cs) σ
  | .bptr _ => False
  | .agg _ => False
  | .tup _ => False
  | .fnc _ _ => False
  | .omap _ => False
  | .yld _ => False
def frzsK (σ : List StB) : List PV → (List PV → List StB → Prop) → Prop
  | [], K => K [] σ
  | p :: ps, K => frzK σ p fun p' σ' => frzsK σ' ps fun ps' σ'' => K (p' :: ps') σ''
def frzAK (σ : List StB) (p : PV) (K : PV → List StB → Prop) : Prop :=
  match p with
  | .agg cs => frzsK σ cs fun cs' σ' => K (.agg cs') σ'
  | .fnc f cs => frzsK σ cs fun cs' σ' => K (.fnc f cs') σ'
  | p => frzK σ p K
def frzAsK (σ : List StB) : List PV → (List PV → List StB → Prop) → Prop
  | [], K => K [] σ
  | p :: ps, K => frzAK σ p fun p' σ' => frzAsK σ' ps fun ps' σ'' => K (p' :: ps') σ''
def Same (σ σ' : List StB) : Prop := ∀ i, i < σ.length → contOf σ i = contOf σ' i
theorem Same.refl (σ : List StB) : Same σ σ := fun _ _ => rfl
theorem contOf_set {σ : List StB} {i : Nat} {ty : TypeId} {cs : List PV} (h : contOf σ i = some (ty, cs)) (j : Nat) : contOf (σ.set i (.frz ty cs)) j = contOf σ j := by
  have hi : i < σ.length := by
    unfold contOf at h
    cases hs : σ[i]? with
    | none => rw [hs] at h; cases h
    | some x => exact (List.getElem?_eq_some_iff.1 hs).1
  by_cases e : j = i
  · subst e
    rw [h]
    unfold contOf
    rw [List.getElem?_set_self hi]
    rfl
  · unfold contOf
    rw [List.getElem?_set_ne (Ne.symm e)]
theorem livOf_set {σ : List StB} {i : Nat} {ty : TypeId} {cs : List PV} (h : contOf σ i = some (ty, cs)) (j : Nat) : livOf (σ.set i (.frz ty cs)) j = livOf σ j := by
  have hi : i < σ.length := by
    unfold contOf at h
    cases hs : σ[i]? with
    | none => rw [hs] at h; cases h
    | some x => exact (List.getElem?_eq_some_iff.1 hs).1
  by_cases e : j = i
  · subst e
    have : livOf σ j = none := by
      unfold contOf at h
      unfold livOf
      cases hs : σ[j]? with
      | none => rfl
      | some x => rw [hs] at h; cases x <;> first | rfl | cases h
    rw [this]
    unfold livOf
    rw [List.getElem?_set_self hi]
  · unfold livOf
    rw [List.getElem?_set_ne (Ne.symm e)]
def FrzO (H0 : Heap) (W0 : Nat → Prop) (c k : Nat) (σ : List StB) (W : Nat → Prop) (β : List Nat) (H : Heap) (σ' : List StB) (W' : Nat → Prop) : Prop := Ext W β H W' β H ∧ Sto H0 W0 c σ' k W' β H ∧ σ'.length = σ.length ∧ (∀ j, contOf σ' j = contOf σ j) ∧ ∀ j, livOf σ' j = livOf σ j
theorem frzK_ok {H0 H : Heap} {W0 : Nat → Prop} {c k : Nat} {σ : List StB} {W : Nat → Prop} {β : List Nat} {p : PV} {a : AV} {K : PV → List StB → Prop} (h : frzK σ p K) (I : Sto H0 W0 c σ k W β H) (hr : RelV H W β p a) :
    ∃ p' σ' W', FrzO H0 W0 c k σ W β H σ' W' ∧ RelC H W' p' a ∧ K p' σ' := by
  have triv : ∀ {p'}, RelC H W p' a → K p' σ → ∃ p' σ' W', FrzO H0 W0 c k σ W β H σ' W' ∧ RelC H W' p' a ∧ K p' σ' := fun h1 h2 => ⟨_, σ, W, ⟨Ext.refl _ _ _, I, rfl, fun _ => rfl, fun _ => rfl⟩, h1, h2⟩
  cases hr with
  | nils => exact triv .lnil h
  | bptr => exact h.elim
  | agg h' => exact h.elim
  | tup h' => exact h.elim
  | fnc f h' => exact h.elim
  | omap h' => exact h.elim
  | yld h' => exact h.elim
  | own o n cp e hb =>
    obtain ⟨ty, cs, cs', h1, h2, rfl, h3⟩ := h
    obtain ⟨W', b, q1, q2, q3, q4, rw, acs, q5, q6⟩ := I.freeze h1
    rw [hb] at q1
    cases q1
    have hl := q6.length
    refine ⟨_, _, W', ⟨q2, q3, by simp, fun j => contOf_set h1 j, fun j => livOf_set h1 j⟩, .sl q4 q5 ?_ h2.2 ?_, h3⟩
    · simp; omega
    · have : (List.take (n * e) (List.drop o cs)).length = n * e := by simp; omega
      rw [this]
      exact (q6.drop o).take _
  | ownu n e hb =>
    obtain ⟨ty, cs, cs', h1, h2, rfl, h3⟩ := h
    obtain ⟨W', b, q1, q2, q3, q4, rw, acs, q5, q6⟩ := I.freeze h1
    rw [hb] at q1
    cases q1
    have hl := q6.length
    refine ⟨_, _, W', ⟨q2, q3, by simp, fun j => contOf_set h1 j, fun j => livOf_set h1 j⟩, .slu q4 q5 ?_ ⟨?_, h2.2⟩ ?_, h3⟩
    · simp; omega
    · simp; omega
    · have : (List.take (n * e) cs).length = n * e := by simp; omega
      rw [this]
      exact (q6.drop 0).take _
  | ownq o n e hb =>
    obtain ⟨ty, cs, cs', h1, h2, rfl, h3⟩ := h
    obtain ⟨W', b, q1, q2, q3, q4, rw, acs, q5, q6⟩ := I.freeze h1
    rw [hb] at q1
    cases q1
    have hl := q6.length
    refine ⟨_, _, W', ⟨q2, q3, by simp, fun j => contOf_set h1 j, fun j => livOf_set h1 j⟩, .slu q4 q5 ?_ ⟨?_, h2.2⟩ ?_, h3⟩
    · simp; omega
    · simp; omega
    · have : (List.take (n * e) (List.drop o cs)).length = n * e := by simp; omega
      rw [this]
      exact (q6.drop o).take _
  | optr o hb =>
    obtain ⟨ty, cs, h1, h2, h3⟩ := h
    obtain ⟨W', b, q1, q2, q3, q4, rw, acs, q5, q6⟩ := I.freeze h1
    rw [hb] at q1
    cases q1
    have hl := q6.length
    refine ⟨_, _, W', ⟨q2, q3, by simp, fun j => contOf_set h1 j, fun j => livOf_set h1 j⟩, .lptr q4 q5 ?_ ?_, h3⟩
    · simp; omega
    · have := (q6.drop o).take (cs.drop o).length
      rwa [List.take_of_length_le (Nat.le_refl _)] at this
  | clo h' =>
    cases h' with
    | int => exact triv (.int _ _) h
    | bool => exact triv (.bool _) h
    | str => exact triv (.str _) h
    | nilp => exact triv .nilp h
    | nilf => exact triv .nilf h
    | nilm => exact triv .nilm h
    | nili => exact triv .nili h
    | fn => exact triv (.fn _) h
    | lnil => exact triv .lnil h
    | lsle => exact triv .lsle h
    | sl a1 a2 a3 a4 a5 => exact triv (.sl a1 a2 a3 a4 a5) h
    | slu a1 a2 a3 a4 a5 => exact triv (.slu a1 a2 a3 a4 a5) h
    | lptr a1 a2 a3 a4 => exact triv (.lptr a1 a2 a3 a4) h
    | agg _ => exact h.elim
    | tup _ => exact h.elim
    | fnc _ _ => exact h.elim
theorem FrzO.trans {H0 H : Heap} {W0 : Nat → Prop} {c k : Nat} {σ σ' σ'' : List StB} {W W' W'' : Nat → Prop} {β : List Nat} (a : FrzO H0 W0 c k σ W β H σ' W') (b : FrzO H0 W0 c k σ' W' β H σ'' W'') : FrzO H0 W0 c k σ W β H σ'' W'' :=
  ⟨a.1.trans b.1, b.2.1, b.2.2.1.trans a.2.2.1, fun j => (b.2.2.2.1 j).trans (a.2.2.2.1 j), fun j => (b.2.2.2.2 j).trans (a.2.2.2.2 j)⟩
theorem frzsK_ok {H0 H : Heap} {W0 : Nat → Prop} {c k : Nat} {β : List Nat} : ∀ {ps : List PV} {σ : List StB} {W : Nat → Prop} {as : List AV} {K : List PV → List StB → Prop}, frzsK σ ps K → Sto H0 W0 c σ k W β H → All2 (RelV H W β) ps as →
    ∃ ps' σ' W', FrzO H0 W0 c k σ W β H σ' W' ∧ All2 (RelC H W') ps' as ∧ K ps' σ'
  | [], σ, W, as, K, h, I, hr => by
    cases hr
    exact ⟨[], σ, W, ⟨Ext.refl _ _ _, I, rfl, fun _ => rfl, fun _ => rfl⟩, .nil, h⟩
  | p :: ps, σ, W, as, K, h, I, hr => by
    cases hr with
    | cons h1 h2 =>
      obtain ⟨p', σ1, W1, f1, r1, h3⟩ := frzK_ok (show frzK σ p fun p' σ' => frzsK σ' ps fun ps' σ'' => K (p' :: ps') σ'' from h) I h1
      obtain ⟨ps', σ2, W2, f2, r2, h4⟩ := frzsK_ok h3 f1.2.1 (RelVs.ext f1.1 h2)
      exact ⟨p' :: ps', σ2, W2, f1.trans f2, .cons (r1.ext f2.1) r2, h4⟩
theorem frzAK_ok {H0 H : Heap} {W0 : Nat → Prop} {c k : Nat} {σ : List StB} {W : Nat → Prop} {β : List Nat} {p : PV} {a : AV} {K : PV → List StB → Prop} (h : frzAK σ p K) (I : Sto H0 W0 c σ k W β H) (hr : RelV H W β p a) :
    ∃ p' σ' W', FrzO H0 W0 c k σ W β H σ' W' ∧ RelC H W' p' a ∧ K p' σ' := by
  unfold frzAK at h
  split at h
  · rename_i cs
    have hx : ∃ as, a = .agg as ∧ All2 (RelV H W β) cs as := by
      cases hr with
      | clo h => cases h with
        | agg h => exact ⟨_, rfl, RelVs.clo h⟩
      | agg h => exact ⟨_, rfl, h⟩
    obtain ⟨as, rfl, hr2⟩ := hx
    obtain ⟨cs', σ', W', f, r, h⟩ := frzsK_ok h I hr2
    exact ⟨.agg cs', σ', W', f, .agg r, h⟩
  · rename_i f cs
    have hx : ∃ as, a = .fn f [] as ∧ All2 (RelV H W β) cs as := by
      cases hr with
      | clo h => cases h with
        | fnc _ h => exact ⟨_, rfl, RelVs.clo h⟩
      | fnc _ h => exact ⟨_, rfl, h⟩
    obtain ⟨as, rfl, hr2⟩ := hx
    obtain ⟨cs', σ', W', f', r, h⟩ := frzsK_ok h I hr2
    exact ⟨.fnc f cs', σ', W', f', .fnc f r, h⟩
  · exact frzK_ok h I hr
theorem frzAsK_ok {H0 H : Heap} {W0 : Nat → Prop} {c k : Nat} {β : List Nat} : ∀ {ps : List PV} {σ : List StB} {W : Nat → Prop} {as : List AV} {K : List PV → List StB → Prop}, frzAsK σ ps K → Sto H0 W0 c σ k W β H → All2 (RelV H W β) ps as →
    ∃ ps' σ' W', FrzO H0 W0 c k σ W β H σ' W' ∧ All2 (RelC H W') ps' as ∧ K ps' σ'
  | [], σ, W, as, K, h, I, hr => by
    cases hr
    exact ⟨[], σ, W, ⟨Ext.refl _ _ _, I, rfl, fun _ => rfl, fun _ => rfl⟩, .nil, h⟩
  | p :: ps, σ, W, as, K, h, I, hr => by
    cases hr with
    | cons h1 h2 =>
      obtain ⟨p', σ1, W1, f1, r1, h3⟩ := frzAK_ok (show frzAK σ p fun p' σ' => frzAsK σ' ps fun ps' σ'' => K (p' :: ps') σ'' from h) I h1
      obtain ⟨ps', σ2, W2, f2, r2, h4⟩ := frzAsK_ok h3 f1.2.1 (RelVs.ext f1.1 h2)
      exact ⟨p' :: ps', σ2, W2, f1.trans f2, .cons (r1.ext f2.1) r2, h4⟩
end Go.PI
