/- Own work of the verifier: PvLate PvApp. -/
import Derived.Test.YtefajaiioljjoaaOwAQ
set_option linter.all false
set_option exponentiation.threshold 3000
set_option linter.deprecated false
/- PLAIN VALUES: regions whose order is open and whose stores go to blocks that nothing there reads. -/
namespace Go.PI
def tgtOf (o : Oper) : Option Tmp :=
  match o.op with
  | .store _ (.tmp y) _ => some y
  | _ => none
def ixOf (T : List PV) (y : Tmp) : Option Nat :=
  match T.getD y undefP with
  | .optr i _ => some i
  | _ => none
def tgtsOf (ops : List Oper) : List Tmp := (ops.filterMap tgtOf).filter fun y => !isDst ops y
def stIx (T : List PV) (ops : List Oper) : List Nat := (tgtsOf ops).filterMap (ixOf T)
def ptrOk (T : List PV) (I : List Nat) (y : Tmp) : Bool :=
  match T.getD y undefP with
  | .optr j _ => !I.contains j
  | .lptr _ => true
  | .bptr _ => true
  | .lst _ _ => true
  | .own j _ _ _ _ => !I.contains j
  | .ownu j _ _ => !I.contains j
  | .ownq j _ _ _ => !I.contains j
  | _ => false
def tgtOk (T : List PV) (I : List Nat) (y : Tmp) : Bool :=
  match ixOf T y with
  | some i => I.contains i
  | none => false
def flowG (o : Oper) (G : List Tmp) : List Tmp :=
  match o.dst with
  | none => G
  | some d => match baseOf o.op with
    | some y => if G.contains y then d :: G else G.filter fun x => !Nat.beq x d
    | none => G.filter fun x => !Nat.beq x d
def flowB (o : Oper) (G : List Tmp) : List Tmp :=
  match o.op with
  | .alloc _ => (match o.dst with
    | none => G
    | some d => d :: G)
  | _ => flowG o G
def lateOp (C : Ctx) (G B : List Tmp) : Op → Bool
  | .load _ (.tmp x) => G.contains x
  | .load _ _ => false
  | .store _ (.tmp y) _ => B.contains y
  | .alloc _ => true
  | op => match kindOf C op with
    | .pure => true
    | _ => quietOp op && (baseOf op).isNone
def lateGo (C : Ctx) (n : Nat) : List Oper → List Tmp → List Tmp → Bool
  | [], _, _ => true
  | o :: os, G, B => o.guard.isNone && (match o.dst with | some d => Nat.blt d n | none => true) && lateOp C G B o.op && lateGo C n os (flowG o G) (flowB o B)
def allMasks (ops : List Oper) : List (List Bool) := ops.map fun _ => List.replicate (ops.length + 1) true
def isLiveB (σ : List StB) (i : Nat) : Bool :=
  match σ[i]? with
  | some (.live _ _) => true
  | some (.liv _ _) => true
  | _ => false
def lateOk (C : Ctx) (T : List PV) (σ : List StB) (ops : List Oper) : Bool :=
  growS4 C ops (allMasks ops) && (stIx T ops).all (isLiveB σ) &&
    lateGo C T.length ops (((ops.filterMap fun o => usesOf o.op).filter fun y => !isDst ops y).filter (ptrOk T (stIx T ops))) ((tgtsOf ops).filter (tgtOk T (stIx T ops)))
def growS6 (C : Ctx) (T : List PV) (σ : List StB) (ops : List Oper) : Bool := growS5 C ops || lateOk C T σ ops
def slB : AV → Option Nat
  | .sl b _ _ _ => some b
  | .slu b _ _ _ => some b
  | .ptr b _ => some b
  | _ => none
def GI (Hs : Heap) (St : Nat → Prop) (G : List Tmp) (T' : List AV) : Prop := ∀ x, x ∈ G → ∀ b, slB (T'.getD x undefA) = some b → b < Hs.n ∧ ¬ St b
theorem base_slB {C : Ctx} {ih : Ih} {T' : List AV} {o : Oper} {H H1 : Heap} {v : AV} {y b : Nat} (e : execE C ih T' o H = some (v, H1)) (hy : baseOf o.op = some y) (hb : slB v = some b) : slB (T'.getD y undefA) = some b := by
  obtain ⟨dst, op, ty, pos, after, guard⟩ := o
  simp only at hy
  have hk : ∀ u, pureE C (opd T') op = some u → u = v → slB (T'.getD y undefA) = some b := fun u hu he => by
    subst he
    unfold baseOf at hy
    split at hy
    · cases hy
      simp only [pureE, opd] at hu
      split at hu
      · rename_i p q
        have q := Option.some.inj q
        split at hu
        · split at hu
          · split at hu
            · cases hu
            · cases hu; cases hb; rw [q]; rfl
          · cases hu
        · cases hu
      · cases hu
    · cases hy
      simp only [pureE, opd] at hu
      split at hu
      · rename_i q
        have q := Option.some.inj q
        cases hu
        rw [q]; exact hb
      · cases hu; cases hb
      · cases hu; cases hb
      · cases hu
    · cases hy
      simp only [pureE, opd] at hu
      cases hu; exact hb
    · cases hy
      simp only [pureE, opd] at hu
      cases hu; exact hb
    · cases hy
      simp only [pureE, opd] at hu
      split at hu
      · rename_i q _
        have q := Option.some.inj q
        split at hu
        · split at hu
          · cases hu; cases hb; rw [q]; rfl
          · cases hu
        · cases hu
      · rename_i q _
        have q := Option.some.inj q
        split at hu
        · split at hu
          · cases hu; cases hb; rw [q]; rfl
          · cases hu
        · cases hu
      · rename_i q _
        have q := Option.some.inj q
        split at hu
        · split at hu
          · cases hu; cases hb; rw [q]; rfl
          · cases hu
        · cases hu
      · cases hu
    · cases hy
  have hkd : kindOf C op = .pure := by
    unfold baseOf at hy
    split at hy <;> first | rfl | cases hy
  simp only [execE, hkd] at e
  split at e
  · rename_i u hu
    cases e
    exact hk _ hu rfl
  · cases e
theorem flow_ok2 {Hs : Heap} {St : Nat → Prop} {T' : List AV} {o : Oper} {v : AV} {G : List Tmp} (hd : ∀ d, o.dst = some d → d < T'.length) (hv : ∀ y, baseOf o.op = some y → ∀ b, slB v = some b → slB (T'.getD y undefA) = some b)
    (hG : GI Hs St G T') : GI Hs St (flowG o G) (putT T' o.dst v) := by
  intro x hx
  unfold flowG at hx
  cases hdst : o.dst with
  | none =>
    rw [hdst] at hx
    exact hG x hx
  | some d =>
    rw [hdst] at hx
    have hdl := hd d hdst
    have keep : x ∈ G → x ≠ d → ∀ b, slB ((putT T' (some d) v).getD x undefA) = some b → b < Hs.n ∧ ¬ St b := fun hm hn b hb => by
      refine hG x hm b ?_
      simp only [putT, List.getD, List.getElem?_set_ne (Ne.symm hn)] at hb
      exact hb
    have drop : x ∈ G.filter (fun x => !Nat.beq x d) → ∀ b, slB ((putT T' (some d) v).getD x undefA) = some b → b < Hs.n ∧ ¬ St b := fun hm => by
      obtain ⟨h1, h2⟩ := List.mem_filter.1 hm
      refine keep h1 fun e => ?_
      subst e
      simp at h2
    simp only at hx
    split at hx
    · rename_i y hy
      split at hx
      · rename_i hc
        rcases Decidable.em (x = d) with e | e
        · subst e
          have hm : y ∈ G := by simpa using hc
          intro b hb
          have hb' : slB v = some b := by simpa [putT, List.getD, List.getElem?_set, hdl] using hb
          exact hG y hm b (hv y hy b hb')
        · rcases List.mem_cons.1 hx with h | h
          · exact absurd h e
          · exact keep h e
      · exact drop hx
    · exact drop hx
def TI2 (Hs : Heap) (St : Nat → Prop) (G : List Tmp) (T' : List AV) : Prop := ∀ x, x ∈ G → ∃ b o, T'.getD x undefA = .ptr b o ∧ (St b ∨ Hs.n ≤ b)
theorem flow_ok {P : Nat → Prop} {C : Ctx} {T' : List AV} {o : Oper} {v : AV} {G : List Tmp} (hd : ∀ d, o.dst = some d → d < T'.length) (hv : ∀ y, baseOf o.op = some y → ∀ b off, T'.getD y undefA = .ptr b off → ∃ off', v = .ptr b off')
    (hG : ∀ x, x ∈ G → ∃ b off, T'.getD x undefA = .ptr b off ∧ P b) : ∀ x, x ∈ flowG o G → ∃ b off, (putT T' o.dst v).getD x undefA = .ptr b off ∧ P b := by
  intro x hx
  unfold flowG at hx
  cases hdst : o.dst with
  | none =>
    rw [hdst] at hx
    exact hG x hx
  | some d =>
    rw [hdst] at hx
    have hdl := hd d hdst
    have keep : x ∈ G → x ≠ d → ∃ b off, (putT T' (some d) v).getD x undefA = .ptr b off ∧ P b := fun hm hn => by
      obtain ⟨b, off, h1, h2⟩ := hG x hm
      exact ⟨b, off, by simp only [putT, List.getD, List.getElem?_set_ne (Ne.symm hn)]; exact h1, h2⟩
    have drop : x ∈ G.filter (fun x => !Nat.beq x d) → ∃ b off, (putT T' (some d) v).getD x undefA = .ptr b off ∧ P b := fun hm => by
      obtain ⟨h1, h2⟩ := List.mem_filter.1 hm
      refine keep h1 fun e => ?_
      subst e
      simp at h2
    simp only at hx
    split at hx
    · rename_i y hy
      split at hx
      · rename_i hc
        rcases Decidable.em (x = d) with e | e
        · subst e
          have hm : y ∈ G := by simpa using hc
          obtain ⟨b, off, h1, h2⟩ := hG y hm
          obtain ⟨off', rfl⟩ := hv y hy b off h1
          exact ⟨b, off', by simp [putT, List.getD, List.getElem?_set, hdl], h2⟩
        · rcases List.mem_cons.1 hx with h | h
          · exact absurd h e
          · exact keep h e
      · exact drop hx
    · exact drop hx
def ldQ2 (C : Ctx) (Hs : Heap) (St : Nat → Prop) : List Oper → List (List AV × Heap) → Prop
  | o :: os, (T, _) :: tr => (match o.op with
    | .load t x => ∃ b off v, opd T x = some (.ptr b off) ∧ b < Hs.n ∧ ¬ St b ∧ loadE C t (.ptr b off) Hs = some v ∧ v.same v = true
    | _ => True) ∧ ldQ2 C Hs St os tr
  | _, _ => True
theorem atsP_all2 {b : Nat} {H0 : Heap} : ∀ {n : Nat} {tr : List (List AV × Heap)}, (∀ x ∈ tr, x.2.get b = H0.get b) → atsP b H0 (List.replicate n true) tr
  | 0, _, _ => by unfold atsP; trivial
  | n + 1, [], _ => by unfold atsP; trivial
  | n + 1, x :: r, h => ⟨h x (by simp), atsP_all2 fun y hy => h y (by simp [hy])⟩
theorem ldsM_of2 {C : Ctx} {ops : List Oper} {Hs : Heap} {St : Nat → Prop} {all : List (List AV × Heap)} (hall : ∀ x ∈ all, ∀ A, A < Hs.n → ¬ St A → x.2.get A = Hs.get A) {n : Nat} :
    ∀ {rest : List Oper} {tr : List (List AV × Heap)}, (∀ x ∈ tr, x ∈ all) → ldQ2 C Hs St rest tr → ldsM C ops all (rest.map fun _ => List.replicate n true) rest tr
  | [], tr, _, _ => by unfold ldsM; trivial
  | o :: os, [], _, _ => by unfold ldsM; trivial
  | o :: os, (T, H) :: tr, ht, hl => by
    refine ⟨?_, ldsM_of2 hall (fun x hx => ht x (by simp [hx])) hl.2⟩
    have h1 := hl.1
    split
    · rename_i t x ho
      rw [ho] at h1
      obtain ⟨b, off, v, h2, h3, h4, h5, h6⟩ := h1
      have hH := hall _ (ht (T, H) (by simp)) b h3 h4
      split
      · exact ⟨b, off, v, h2, by rw [load_get hH]; exact h5, h6, atsP_all2 fun y hy => by rw [hall y hy b h3 h4]; exact hH.symm⟩
      · trivial
    · trivial
theorem store_other2 {C : Ctx} {t : TypeId} {b o : Nat} {v : AV} {H H' : Heap} (hn : H.n < lim) (h : storeE C t (.ptr b o) v H = some H') {A : Nat} (hA : A ≠ b) : H'.get A = H.get A := by
  unfold storeE at h
  split at h
  · rename_i he
    cases he
    split at h
    · rename_i hb
      split at h
      · cases h
        rw [Heap.get_set (Heap.lt_cells hb) hn, if_neg hA]
      · cases h
    · cases h
  · cases h
theorem quiet_pure {C : Ctx} {op : Op} (h : kindOf C op = .pure) : quietOp op = true := by
  unfold quietOp
  split
  · simp [kindOf] at h
  · simp [kindOf] at h
  · simp [kindOf] at h
  · rfl
section
variable {O : Opn} {C : Ctx} {H0 : Heap} {W0 : Nat → Prop} {c : Nat}
theorem late_step {T : List PV} {T' : List AV} {o : Oper} {K : PV → List StB → Nat → Prop} {σ : List StB} {k : Nat} {W : Nat → Prop} {β : List Nat} {H Hs : Heap} {St : Nat → Prop} {G B : List Tmp} (h : wOp O C c true T σ k o.op K) (I : Sto H0 W0 c σ k W β H) (hr : All2 (RelV H W β) T T')
    (hn : Hs.n ≤ H.n) (g3 : lateOp C G B o.op = true) (hG : GI Hs St G T') (hB : TI2 Hs St B T') (hH : ∀ A, A < Hs.n → ¬ St A → H.get A = Hs.get A) :
    ∃ n v H1 r σ1 k1 W1 β1, execE C (ev C n) T' o H = some (v, H1) ∧ Ext W β H W1 β1 H1 ∧ Sto H0 W0 c σ1 k1 W1 β1 H1 ∧ RelV H1 W1 β1 r v ∧ K r σ1 k1 ∧
      (∀ A, A < Hs.n → ¬ St A → H1.get A = Hs.get A) ∧ (∀ y, baseOf o.op = some y → ∀ b off, T'.getD y undefA = .ptr b off → ∃ off', v = .ptr b off') ∧ (∀ e, o.op = .alloc e → ∃ b off, v = .ptr b off ∧ Hs.n ≤ b) ∧
      (∀ t x, o.op = .load t x → ∃ b off, opd T' x = some (.ptr b off) ∧ b < Hs.n ∧ ¬ St b ∧ loadE C t (.ptr b off) Hs = some v ∧ v.same v = true) := by
  obtain ⟨dst, op, ty, pos, after, guard⟩ := o
  simp only at h g3 ⊢
  unfold lateOp at g3
  split at g3
  · rename_i t x
    have h' : wOp O C c false T σ k (.load t (.tmp x)) (fun v σ k => smP v = true ∧ K v σ k) := h
    obtain ⟨n, v, H1, e1, r, σ1, k1, W1, β1, E1, I1, e2, ⟨hs, e3⟩, e4⟩ := op_ok (o := ⟨dst, .load t (.tmp x), ty, pos, after, guard⟩) false h' I fun y _ => TR_of hr y
    have hl : ∃ b off, T'.getD x undefA = .ptr b off ∧ loadE C t (.ptr b off) H = some v ∧ H1 = H := by
      simp only [execE, kindOf, opd] at e1
      split at e1
      · rename_i u hu
        cases e1
        have hu' := hu
        unfold loadE at hu'
        split at hu'
        · rename_i i b off _ hp
          exact ⟨b, off, hp, by rw [← hp]; exact hu, rfl⟩
        · cases hu'
      · cases e1
    obtain ⟨b, off, p1, hl, rfl⟩ := hl
    obtain ⟨p2, p3⟩ := hG x (by simpa using g3) b (by rw [p1]; rfl)
    refine ⟨n, v, H1, r, σ1, k1, W1, β1, e1, E1, I1, e2, e3, hH, fun y hy => (by simp [baseOf] at hy), fun e he => (by cases he), fun t' x' he => ?_⟩
    cases he
    exact ⟨b, off, by simp only [opd, p1], p2, p3, by rw [← load_get (hH b p2 p3)]; exact hl, e2.same hs⟩
  · cases g3
  · rename_i t y a
    obtain ⟨n, v, H1, e1, r, σ1, k1, W1, β1, E1, I1, e2, e3, e4⟩ := op_ok (o := ⟨dst, .store t (.tmp y) a, ty, pos, after, guard⟩) true h I fun y _ => TR_of hr y
    obtain ⟨b, off, p1, p2⟩ := hB y (by simpa using g3)
    refine ⟨n, v, H1, r, σ1, k1, W1, β1, e1, E1, I1, e2, e3, fun A hA hs => ?_, fun y hy => (by simp [baseOf] at hy), fun e he => (by cases he), fun t' x' he => (by cases he)⟩
    have hne : A ≠ b := fun e => by
      subst e
      rcases p2 with p2 | p2
      · exact hs p2
      · omega
    simp only [execE, kindOf, effE, opd, p1] at e1
    split at e1
    · split at e1
      · rename_i q1 _ _ H' h2
        cases e1
        cases q1
        rw [store_other2 I.nlim h2 hne]
        exact hH A hA hs
      · cases e1
    · cases e1
  · rename_i e
    obtain ⟨n, v, H1, e1, r, σ1, k1, W1, β1, E1, I1, e2, e3, e4⟩ := op_ok (o := ⟨dst, .alloc e, ty, pos, after, guard⟩) true h I fun y _ => TR_of hr y
    have hq := e4 rfl
    refine ⟨n, v, H1, r, σ1, k1, W1, β1, e1, E1, I1, e2, e3, fun A hA hs => by rw [hq.1 A (by omega)]; exact hH A hA hs, fun y hy => (by simp [baseOf] at hy), fun e' he => ?_, fun t' x' he => (by cases he)⟩
    simp only [execE, kindOf, allocE] at e1
    split at e1
    · cases e1
    · split at e1
      · rename_i h2
        split at h2
        · cases h2
          cases e1
          exact ⟨_, _, rfl, hn⟩
        · cases h2
      · cases e1
  · rename_i hn1 hn2 hn3 hn4
    split at g3
    · rename_i hk
      obtain ⟨n, v, H1, e1, r, σ1, k1, W1, β1, E1, I1, e2, e3, e4⟩ := op_ok (o := ⟨dst, op, ty, pos, after, guard⟩) true h I fun y _ => TR_of hr y
      have hq := e4 (quiet_pure hk)
      refine ⟨n, v, H1, r, σ1, k1, W1, β1, e1, E1, I1, e2, e3, fun A hA hs => by rw [hq.1 A (by omega)]; exact hH A hA hs, fun y hy b off hp => ?_, fun e' he => absurd he (hn4 e'), fun t' x' he => by subst he; simp [kindOf] at hk⟩
      simp only [execE, hk] at e1
      split at e1
      · rename_i u hu
        cases e1
        unfold baseOf at hy
        split at hy
        · cases hy
          simp only [pureE, opd, hp] at hu
          split at hu
          · rename_i he
            cases he
            split at hu
            · split at hu
              · split at hu
                · cases hu
                · cases hu; exact ⟨_, rfl⟩
              · cases hu
            · cases hu
          · cases hu
        · cases hy
          simp only [pureE, opd, hp] at hu
          cases hu; exact ⟨_, rfl⟩
        · cases hy
          simp only [pureE, opd, hp] at hu
          cases hu; exact ⟨_, rfl⟩
        · cases hy
          simp only [pureE, opd, hp] at hu
          cases hu; exact ⟨_, rfl⟩
        · cases hy
          simp only [pureE, opd, hp] at hu
          split at hu
          · rename_i he _; cases he
          · rename_i he _; cases he
          · rename_i he _
            cases he
            split at hu
            · split at hu
              · cases hu; exact ⟨_, rfl⟩
              · cases hu
            · cases hu
          · cases hu
        · cases hy
      · cases e1
    · rw [Bool.and_eq_true] at g3
      obtain ⟨g3, g4⟩ := g3
      obtain ⟨n, v, H1, e1, r, σ1, k1, W1, β1, E1, I1, e2, e3, e4⟩ := op_ok (o := ⟨dst, op, ty, pos, after, guard⟩) true h I fun y _ => TR_of hr y
      have hq := e4 (by rw [g3]; rfl)
      have hld : ∀ t' x', op ≠ .load t' x' := fun t' x' he => by
        subst he
        cases x' with
        | tmp y => exact hn1 t' y rfl
        | _ => exact hn2 t' _ rfl
      exact ⟨n, v, H1, r, σ1, k1, W1, β1, e1, E1, I1, e2, e3, fun A hA hs => by rw [hq.1 A (by omega)]; exact hH A hA hs, fun y hy b off hp => (by rw [hy] at g4; simp at g4), fun e' he => absurd he (hn4 e'), fun t' x' he => absurd he (hld t' x')⟩
theorem late_tr {ops : List Oper} {St : Nat → Prop} {Hs : Heap} :
    ∀ {rest : List Oper} {G B : List Tmp} {T : List PV} {σ : List StB} {k : Nat} {Q : List PV → List StB → Nat → Prop} {W : Nat → Prop} {β : List Nat} {H : Heap} {T' : List AV} {N : Nat},
    wOps O C c true ops rest T σ k Q → Sto H0 W0 c σ k W β H → All2 (RelV H W β) T T' → Hs.n ≤ H.n → T'.length = N → lateGo C N rest G B = true → GI Hs St G T' → TI2 Hs St B T' → (∀ A, A < Hs.n → ¬ St A → H.get A = Hs.get A) →
    ∃ n tl T2 H2, traceE C (ev C n) ops rest T' H = some ((T', H) :: tl) ∧ lastOf ((T', H) :: tl) = some (T2, H2) ∧ tl.length = rest.length ∧ (∀ x ∈ (T', H) :: tl, ∀ A, A < Hs.n → ¬ St A → x.2.get A = Hs.get A) ∧
      ldQ2 C Hs St rest ((T', H) :: tl) ∧ alsP C ops rest ((T', H) :: tl) ∧ mnP ((T', H) :: tl) ∧ EndR H0 W0 c W β H Q T2 H2
  | [], G, B, T, σ, k, Q, W, β, H, T', N, h, I, hr, hn, hN, hl, hG, hB, hH => by
    refine ⟨0, [], T', H, rfl, rfl, rfl, fun x hx => ?_, trivial, trivial, trivial, T, σ, k, W, β, Ext.refl _ _ _, I, hr, h⟩
    rw [List.mem_singleton.1 hx]
    exact hH
  | o :: rest, G, B, T, σ, k, Q, W, β, H, T', N, h, I, hr, hn, hN, hl, hG, hB, hH => by
    have h : wG O C c true ops o T σ k fun T' σ' k' => wOps O C c true ops rest T' σ' k' Q := h
    simp only [lateGo, Bool.and_eq_true] at hl
    obtain ⟨⟨⟨g1, g2⟩, g3⟩, g4⟩ := hl
    have hw : ∀ ys, Region.wanted o ys = true := fun ys => by
      unfold Region.wanted
      cases hg : o.guard with
      | none => rfl
      | some x => rw [hg] at g1; simp at g1
    have h := (wG_wop h (hw _)).1
    obtain ⟨n, v, H1, r, σ1, k1, W1, β1, e1, E1, I1, e2, e3, f1, f2, f3, f4⟩ := late_step h I hr hn g3 hG hB hH
    have hK := pputK_ok e3
    have hdl : ∀ d, o.dst = some d → d < T'.length := fun d hd => by
      rw [hd] at g2
      have h1 : Nat.ble (d + 1) N = true := g2
      have h2 : d + 1 ≤ N := Nat.le_of_ble_eq_true h1
      rw [hN]
      exact h2
    have hlen : (putT T' o.dst v).length = N := by
      cases o.dst with
      | none => exact hN
      | some d => simp [putT, hN]
    have hG1 : GI Hs St (flowG o G) (putT T' o.dst v) := flow_ok2 hdl (fun y hy b hb => base_slB e1 hy hb) hG
    have hB1 : TI2 Hs St (flowB o B) (putT T' o.dst v) := by
      have hf : ∀ x, x ∈ flowG o B → ∃ b off, (putT T' o.dst v).getD x undefA = .ptr b off ∧ (St b ∨ Hs.n ≤ b) := flow_ok (P := fun b => St b ∨ Hs.n ≤ b) (C := C) hdl f2 hB
      intro x hx
      unfold flowB at hx
      split at hx
      · rename_i e ho
        obtain ⟨b, off, rfl, hb⟩ := f3 e ho
        split at hx
        · rename_i hd
          rw [hd]
          exact hB x hx
        · rename_i d hd
          rw [hd]
          have hdl' := hdl d hd
          by_cases e : x = d
          · subst e
            exact ⟨b, off, by simp [putT, List.getD, List.getElem?_set, hdl'], .inr hb⟩
          · rcases List.mem_cons.1 hx with h | h
            · exact absurd h e
            · obtain ⟨b', off', h1, h2⟩ := hB x h
              exact ⟨b', off', by simp only [putT, List.getD, List.getElem?_set_ne (Ne.symm e)]; exact h1, h2⟩
      · exact hf x hx
    obtain ⟨n2, tl, T2, H2, h1, h2, h3, h4, h5, h6, h7, T3, σ2, k2, W2, β2, E2, h8⟩ := late_tr hK I1 (put_rel (RelVs.ext E1 hr) e2) (Nat.le_trans hn E1.n) hlen g4 hG1 hB1 f1
    have hs : stepE C (ev C n) ops o T' H = some (putT T' o.dst v, H1) := by
      unfold stepE
      rw [if_pos (hw _), e1]
    refine ⟨max n n2, _, T2, H2, ?_, lastOf_cons _ h2, by simpa using h3, fun x hx => ?_, ⟨?_, h5⟩, ⟨?_, h6⟩, ⟨E1.n, h7⟩, T3, σ2, k2, W2, β2, E1.trans E2, h8⟩
    · unfold traceE
      rw [stepE_mono (ev_mono (Nat.le_max_left n n2)) hs]
      simp only [traceE_mono (ev_mono (Nat.le_max_right n n2)) h1]
    · rcases List.mem_cons.1 hx with rfl | hx
      · exact hH
      · exact h4 x hx
    · split
      · rename_i t x ho
        obtain ⟨b, off, q1, q2, q3, q4, q5⟩ := f4 t x ho
        exact ⟨b, off, v, q1, q2, q3, q4, q5⟩
      · trivial
    · split
      · rename_i hk
        rw [hw]
        simp only [execE, hk] at e1
        split at e1
        · cases e1
        · split at e1
          · rename_i b f ha
            obtain ⟨ty, cs, rfl⟩ := alloc_is ha
            exact ⟨ty, cs, f, ha⟩
          · cases e1
      · trivial
theorem open_ok6 {ops : List Oper} {T : List PV} {σ : List StB} {k : Nat} {Q : List PV → List StB → Nat → Prop} {W : Nat → Prop} {β : List Nat} {H : Heap} {T' : List AV} (hg : growS6 C T σ ops = true)
    (h : wOps O C c true ops ops T σ k Q) (I : Sto H0 W0 c σ k W β H) (hr : All2 (RelV H W β) T T') :
    ∃ n tr T2 H2, traceE C (ev C n) ops ops T' H = some tr ∧ lastOf tr = some (T2, H2) ∧ drawOk C ops tr = true ∧ EndR H0 W0 c W β H Q T2 H2 := by
  unfold growS6 at hg
  rw [Bool.or_eq_true] at hg
  rcases hg with hg | hg
  · exact open_ok hg h I hr
  simp only [lateOk, Bool.and_eq_true] at hg
  obtain ⟨⟨g1, g2⟩, g3⟩ := hg
  have hT := hr.length
  have live : ∀ i b, i ∈ stIx T ops → β[i]? = some b → W b := fun i b hi hb => by
    have := List.all_eq_true.1 g2 i hi
    unfold isLiveB at this
    split at this
    · rename_i ty cs hs
      exact (I.live i ty cs b hs hb).1
    · rename_i ty cs hs
      exact (I.liv i ty cs b hs hb).1
    · cases this
  have rel : ∀ y, RelV H W β (T.getD y undefP) (T'.getD y undefA) := fun y => TR_of hr (.tmp y)
  have inI : ∀ {j b0 : Nat}, (!(stIx T ops).contains j) = true → β[j]? = some b0 → ∀ b, some b0 = some b → b < H.n ∧ ¬ ∃ i, i ∈ stIx T ops ∧ β[i]? = some b := fun {j b0} hx hb b he => by
    cases he
    refine ⟨(I.bl j _ hb).2, fun ⟨i, hi, hib⟩ => ?_⟩
    have := I.inj i j _ hib hb
    subst this
    simp at hx
    exact hx hi
  have key := late_tr (ops := ops) (St := fun b => ∃ i, i ∈ stIx T ops ∧ β[i]? = some b) (Hs := H) (N := T.length) h I hr (Nat.le_refl _) hT.symm g3 (fun x hx => ?_) (fun x hx => ?_) (fun _ _ _ => rfl)
  · obtain ⟨n, tl, T2, H2, h1, h2, h3, h4, h5, h6, h7, h8⟩ := key
    refine ⟨n, _, T2, H2, h1, h2, ?_, h8⟩
    exact draw_of4 (allMasks ops) g1 (by simp [h3]) (ldsM_of2 h4 (fun _ h => h) h5) h6 h7
  · have hx := (List.mem_filter.1 hx).2
    have hv := rel x
    unfold ptrOk at hx
    split at hx
    · rename_i j o hp
      rw [hp] at hv
      obtain ⟨b, hb, ha⟩ := hv.optr_inv
      rw [ha]
      exact inI hx hb
    · rename_i cs hp
      rw [hp] at hv
      cases hv with
      | clo hv =>
        generalize T'.getD x undefA = a at hv
        cases hv with
        | lptr hW hg' hb' hh => exact fun b hb => by cases hb; exact ⟨Heap.lt_cells hg', fun ⟨i, hi, hib⟩ => hW (live i _ hi hib)⟩
    · rename_i cs hp
      rw [hp] at hv
      generalize T'.getD x undefA = a at hv
      cases hv with
      | clo hv => cases hv
      | bptr hn' hg' hb' hh => exact fun b hb => by cases hb; exact ⟨Heap.lt_cells hg', fun ⟨i, hi, hib⟩ => hn' i hib⟩
    · rename_i n cs hp
      rw [hp] at hv
      cases hv with
      | clo hv =>
        generalize T'.getD x undefA = a at hv
        cases hv with
        | lnil => exact fun b hb => by cases hb
        | lsle => exact fun b hb => by cases hb
        | sl hW hg' hb' hc hh => exact fun b hb => by cases hb; exact ⟨Heap.lt_cells hg', fun ⟨i, hi, hib⟩ => hW (live i _ hi hib)⟩
        | slu hW hg' hb' hc hh => exact fun b hb => by cases hb; exact ⟨Heap.lt_cells hg', fun ⟨i, hi, hib⟩ => hW (live i _ hi hib)⟩
    · rename_i j o n c e hp
      rw [hp] at hv
      obtain ⟨b, hb, ha⟩ := hv.own_inv
      rw [ha]
      exact inI hx hb
    · rename_i j n e hp
      rw [hp] at hv
      obtain ⟨b, hb, ha⟩ := hv.ownu_inv
      rw [ha]
      exact inI hx hb
    · rename_i j o n e hp
      rw [hp] at hv
      obtain ⟨b, hb, ha⟩ := hv.ownq_inv
      rw [ha]
      exact inI hx hb
    · cases hx
  · have hx := (List.mem_filter.1 hx).2
    have hv := rel x
    unfold tgtOk at hx
    split at hx
    · rename_i i hi
      unfold ixOf at hi
      split at hi
      · rename_i j o hp
        cases hi
        rw [hp] at hv
        obtain ⟨b, hb, ha⟩ := hv.optr_inv
        exact ⟨b, o, ha, .inl ⟨i, by simpa using hx, hb⟩⟩
      · cases hi
    · cases hx
end
end Go.PI
/- PLAIN VALUES: regions whose order is open, whose loads read blocks that no append there writes. -/
namespace Go.PI
def isLd : Op → Bool
  | .load _ _ => true
  | _ => false
def appLoadOp (C : Ctx) (G : List Tmp) (op : Op) : Bool :=
  lateOp C G [] op || (match actTgt op with
    | some _ => true
    | none => quietOp op && (baseOf op).isNone && !isLd op)
def appGo (C : Ctx) (n : Nat) : List Oper → List Tmp → Bool
  | [], _ => true
  | o :: os, G => o.guard.isNone && (match o.dst with | some d => Nat.blt d n | none => true) && appLoadOp C G o.op && appGo C n os (flowG o G)
def isOptr (T : List PV) (y : Tmp) : Bool :=
  match T.getD y undefP with
  | .optr _ _ => true
  | .lst _ _ => true
  | _ => false
def appG0 (T : List PV) (ops : List Oper) : List Tmp := (basePtrs ops).filter (isOptr T)
def appOk (C : Ctx) (T : List PV) (ops : List Oper) : Bool :=
  hasApp ops && (growS4 C ops (allMasks ops) && appGo C T.length ops (appG0 T ops))
def growS7 (O : Opn) (C : Ctx) (T : List PV) (σ : List StB) (ops : List Oper) : Bool := (O.a && appOk C T ops) || growS6 C T σ ops
theorem append_other {C : Ctx} {ts : List TypeId} {s x v : AV} {H H' : Heap} (h : appendE C ts s x H = some (v, H')) (hn : H.n < lim) {A : Nat} (hA : A < H.n) (hs : slB s ≠ some A) : H'.get A = H.get A := by
  have hp : ∀ b : Blk, (H.push b).get A = H.get A := fun b => by rw [Heap.get_push hn, if_neg (by omega)]
  unfold appendE appendZ at h
  repeat' split at h
  all_goals first
    | (cases h; done)
    | (cases h; rfl)
    | (cases h; exact hp _)
    | (rename_i b _ _ _ _ _ _ hb _ _ _
       cases h
       rw [Heap.get_set (Heap.lt_cells hb) hn, if_neg (fun e => hs (by rw [e]; rfl))])
    | (rename_i hb _
       cases h
       rw [Heap.get_push (by simpa [Heap.set] using hn), if_neg (by show A ≠ H.n; omega), Heap.get_set (Heap.lt_cells hb) hn, if_neg (fun e => hs (by rw [e]; rfl))])
section
variable {O : Opn} {C : Ctx} {H0 : Heap} {W0 : Nat → Prop} {c : Nat}
theorem apC_at {T : List PV} {j : Nat} : ∀ {ys : List Tmp} {y i o : Nat}, apC T j ys → y ∈ ys → T.getD y undefP = .optr i o → i ≠ j
  | z :: ys, y, i, o, h, hy, he => by
    rcases List.mem_cons.1 hy with rfl | hy
    · have := h.1
      rw [he] at this
      exact this
    · exact apC_at h.2 hy he
theorem app_step {T : List PV} {T' : List AV} {o : Oper} {K : PV → List StB → Nat → Prop} {σ : List StB} {k : Nat} {W : Nat → Prop} {β : List Nat} {H Hs : Heap} {St : Nat → Prop} {G : List Tmp} (h : wOp O C c true T σ k o.op K) (I : Sto H0 W0 c σ k W β H) (hr : All2 (RelV H W β) T T')
    (hn : Hs.n ≤ H.n) (g3 : appLoadOp C G o.op = true) (hG : GI Hs St G T') (hH : ∀ A, A < Hs.n → ¬ St A → H.get A = Hs.get A)
    (ha : ∀ a, actTgt o.op = some a → ∀ A, A < Hs.n → ¬ St A → ¬ W A ∨ slB (T'.getD a undefA) ≠ some A) :
    ∃ n v H1 r σ1 k1 W1 β1, execE C (ev C n) T' o H = some (v, H1) ∧ Ext W β H W1 β1 H1 ∧ Sto H0 W0 c σ1 k1 W1 β1 H1 ∧ RelV H1 W1 β1 r v ∧ K r σ1 k1 ∧
      (∀ A, A < Hs.n → ¬ St A → H1.get A = Hs.get A) ∧ (∀ y, baseOf o.op = some y → ∀ b off, T'.getD y undefA = .ptr b off → ∃ off', v = .ptr b off') ∧
      (∀ t x, o.op = .load t x → ∃ b off, opd T' x = some (.ptr b off) ∧ b < Hs.n ∧ ¬ St b ∧ loadE C t (.ptr b off) Hs = some v ∧ v.same v = true) := by
  unfold appLoadOp at g3
  by_cases hlate : lateOp C G [] o.op = true
  · obtain ⟨n, v, H1, r, σ1, k1, W1, β1, e1, E1, I1, e2, e3, f1, f2, f3, f4⟩ := late_step h I hr hn hlate hG (B := []) (fun x hx => by simp at hx) hH
    exact ⟨n, v, H1, r, σ1, k1, W1, β1, e1, E1, I1, e2, e3, f1, f2, f4⟩
  · rw [Bool.or_eq_true] at g3
    replace g3 := g3.resolve_left hlate
    obtain ⟨n, v, H1, e1, r, σ1, k1, W1, β1, E1, I1, e2, e3, e4⟩ := op_ok true h I fun y _ => TR_of hr y
    cases hap : actTgt o.op with
    | none =>
      rw [hap] at g3
      simp only [Bool.and_eq_true] at g3
      obtain ⟨⟨g4, g5⟩, g6⟩ := g3
      have hq := e4 (by rw [g4]; rfl)
      refine ⟨n, v, H1, r, σ1, k1, W1, β1, e1, E1, I1, e2, e3, fun A hA hs => by rw [hq.1 A (by omega)]; exact hH A hA hs, fun y hy => by rw [hy] at g5; simp at g5, fun t x ht => by rw [ht] at g6; simp [isLd] at g6⟩
    | some a =>
      have hne := ha a hap
      clear hlate g3
      obtain ⟨dst, op, ty, pos, after, guard⟩ := o
      simp only at hap e1 h ⊢
      unfold actTgt at hap
      split at hap
      · rename_i t y u
        cases hap
        refine ⟨n, v, H1, r, σ1, k1, W1, β1, e1, E1, I1, e2, e3, fun A hA hs => ?_, fun y hy => by simp [baseOf] at hy, fun t x ht => by cases ht⟩
        have e5 : effE C (ev C n) (opd T') (.store t (.tmp a) u) H = some (v, H1) := e1
        simp only [effE] at e5
        split at e5
        · rename_i p q h1 h2
          split at e5
          · rename_i H' h3
            cases e5
            have hp : p = T'.getD a undefA := by simp only [opd] at h1; exact (Option.some.inj h1).symm
            cases p with
            | ptr b off =>
              rcases hne A hA hs with hW | hne
              · rw [E1.get A (by omega) hW]
                exact hH A hA hs
              rw [store_other2 I.nlim h3 (fun e => hne (by rw [← hp, e]; rfl))]
              exact hH A hA hs
            | _ => unfold storeE at h3; split at h3 <;> first | (rename_i he; cases he; done) | cases h3
          · cases e5
        · cases e5
      unfold appArg at hap
      split at hap
      · rename_i args ts _
        refine ⟨n, v, H1, r, σ1, k1, W1, β1, e1, E1, I1, e2, e3, fun A hA hs => ?_, fun y hy => by simp [baseOf] at hy, fun t x ht => by cases ht⟩
        have e5 : effE C (ev C n) (opd T') (.call { callee := .builtin .append, args := args, argTypes := ts }) H = some (v, H1) := e1
        simp only [effE] at e5
        split at hap
        · rename_i a' as has
          cases hap
          rw [has] at e5
          split at e5
          · rename_i s x hop
            have hs1 : s = T'.getD a undefA := by
              unfold opds at hop
              split at hop
              · rename_i u us h1 h2
                cases hop
                simp only [opd] at h1
                exact (Option.some.inj h1).symm
              · cases hop
            rcases hne A hA hs with hW | hne
            · rw [E1.get A (by omega) hW]
              exact hH A hA hs
            rw [append_other e5 I.nlim (show A < H.n by omega) (by rw [hs1]; exact hne)]
            exact hH A hA hs
          · cases e5
        · cases hap
      · cases hap
theorem app_tr {ops : List Oper} {St : Nat → Prop} {Hs : Heap} {G0 : List Tmp} {T0 : List PV} {βs : List Nat}
    {Ws : Nat → Prop} (hG0 : ∀ y ∈ G0, isDst ops y = false ∧ y ∈ basePtrs ops)
    (hap0 : (O.a && hasApp ops) = true) (hSt : ∀ b, b < Hs.n → ¬ St b → ¬ Ws b ∨ ∃ y ∈ G0, ∃ i o, T0.getD y undefP = .optr i o ∧ βs[i]? = some b) :
    ∀ {rest : List Oper} {G : List Tmp} {T : List PV} {σ : List StB} {k : Nat} {Q : List PV → List StB → Nat → Prop} {W : Nat → Prop} {β : List Nat} {H : Heap} {T' : List AV} {N : Nat},
    wOps O C c true ops rest T σ k Q → Sto H0 W0 c σ k W β H → All2 (RelV H W β) T T' → Hs.n ≤ H.n → T'.length = N → appGo C N rest G = true → (∀ o ∈ rest, ∀ d, o.dst = some d → isDst ops d = true) → GI Hs St G T' → (∀ A, A < Hs.n → ¬ St A → H.get A = Hs.get A) → (∀ y ∈ G0, T.getD y undefP = T0.getD y undefP) → (∀ i x : Nat, βs[i]? = some x → β[i]? = some x) → (∀ A, A < Hs.n → W A → Ws A) →
    ∃ n tl T2 H2, traceE C (ev C n) ops rest T' H = some ((T', H) :: tl) ∧ lastOf ((T', H) :: tl) = some (T2, H2) ∧ tl.length = rest.length ∧ (∀ x ∈ (T', H) :: tl, ∀ A, A < Hs.n → ¬ St A → x.2.get A = Hs.get A) ∧
      ldQ2 C Hs St rest ((T', H) :: tl) ∧ alsP C ops rest ((T', H) :: tl) ∧ mnP ((T', H) :: tl) ∧ EndR H0 W0 c W β H Q T2 H2
  | [], G, T, σ, k, Q, W, β, H, T', N, h, I, hr, hn, hN, hl, hd, hG, hH, hT, hβ, hWs => by
    refine ⟨0, [], T', H, rfl, rfl, rfl, fun x hx => ?_, trivial, trivial, trivial, T, σ, k, W, β, Ext.refl _ _ _, I, hr, h⟩
    rw [List.mem_singleton.1 hx]
    exact hH
  | o :: rest, G, T, σ, k, Q, W, β, H, T', N, h, I, hr, hn, hN, hl, hd, hG, hH, hT, hβ, hWs => by
    have h : wG O C c true ops o T σ k fun T' σ' k' => wOps O C c true ops rest T' σ' k' Q := h
    simp only [appGo, Bool.and_eq_true] at hl
    obtain ⟨⟨⟨g1, g2⟩, g3⟩, g4⟩ := hl
    have hw : ∀ ys, Region.wanted o ys = true := fun ys => by
      unfold Region.wanted
      cases hg : o.guard with
      | none => rfl
      | some x => rw [hg] at g1; simp at g1
    obtain ⟨h, hap⟩ := wG_wop h (hw _)
    obtain ⟨n, v, H1, r, σ1, k1, W1, β1, e1, E1, I1, e2, e3, f1, f2, f4⟩ := app_step h I hr hn g3 hG hH (fun a ha A hA hs => by
      have hap := hap rfl hap0 a ha
      rcases hSt A hA hs with hsW | ⟨y, hy, i, of, hy1, hy2⟩
      · exact .inl fun hw => hsW (hWs A hA hw)
      refine .inr fun e => ?_
      have hyb := (hG0 y hy).2
      have hyT : T.getD y undefP = .optr i of := by rw [hT y hy]; exact hy1
      have hv : RelV H W β (T.getD a undefP) (T'.getD a undefA) := TR_of hr (.tmp a)
      unfold apW at hap
      split at hap
      · rename_i hs'
        rw [hs'] at hv
        generalize T'.getD a undefA = s' at hv e
        cases hv with
        | clo hv => cases hv
        | nils => simp [slB] at e
      · rename_i hs'
        rw [hs'] at hv
        obtain ⟨b, hb, hs2⟩ := hv.own_inv
        rw [hs2] at e
        have e := Option.some.inj e
        subst e
        exact apC_at hap hyb hyT (I.inj _ _ _ (hβ _ _ hy2) hb)
      · rename_i hs'
        rw [hs'] at hv
        obtain ⟨b, hb, hs2⟩ := hv.ownu_inv
        rw [hs2] at e
        have e := Option.some.inj e
        subst e
        exact apC_at hap hyb hyT (I.inj _ _ _ (hβ _ _ hy2) hb)
      · rename_i hs'
        rw [hs'] at hv
        obtain ⟨b, hb, hs2⟩ := hv.ownq_inv
        rw [hs2] at e
        have e := Option.some.inj e
        subst e
        exact apC_at hap hyb hyT (I.inj _ _ _ (hβ _ _ hy2) hb)
      · rename_i hs'
        rw [hs'] at hv
        obtain ⟨b, hb, hs2⟩ := hv.optr_inv
        rw [hs2] at e
        have e := Option.some.inj e
        subst e
        exact apC_at hap hyb hyT (I.inj _ _ _ (hβ _ _ hy2) hb)
      · exact hap)
    have hK := pputK_ok e3
    have hdl : ∀ d, o.dst = some d → d < T'.length := fun d hd => by
      rw [hd] at g2
      have h1 : Nat.ble (d + 1) N = true := g2
      have h2 : d + 1 ≤ N := Nat.le_of_ble_eq_true h1
      rw [hN]
      exact h2
    have hlen : (putT T' o.dst v).length = N := by
      cases o.dst with
      | none => exact hN
      | some d => simp [putT, hN]
    have hG1 : GI Hs St (flowG o G) (putT T' o.dst v) := flow_ok2 hdl (fun y hy b hb => base_slB e1 hy hb) hG
    have hT1 : ∀ y ∈ G0, (pputT T o.dst r).getD y undefP = T0.getD y undefP := fun y hy => by
      cases hdd : o.dst with
      | none => exact hT y hy
      | some d =>
        have h1 := hd o (by simp) d hdd
        have hne : d ≠ y := fun e => by
          subst e
          rw [(hG0 _ hy).1] at h1
          cases h1
        simp only [pputT, List.getD, List.getElem?_set_ne hne]
        exact hT y hy
    obtain ⟨n2, tl, T2, H2, h1, h2, h3, h4, h5, h6, h7, T3, σ2, k2, W2, β2, E2, h8⟩ := app_tr hG0 hap0 hSt hK I1 (put_rel (RelVs.ext E1 hr) e2) (Nat.le_trans hn E1.n) hlen g4 (fun o' ho' => hd o' (by simp [ho'])) hG1 f1 hT1 (fun i x hx => E1.bt i x (hβ i x hx)) (fun A hA hw => hWs A hA (E1.w A (by omega) hw))
    have hs : stepE C (ev C n) ops o T' H = some (putT T' o.dst v, H1) := by
      unfold stepE
      rw [if_pos (hw _), e1]
    refine ⟨max n n2, _, T2, H2, ?_, lastOf_cons _ h2, by simpa using h3, fun x hx => ?_, ⟨?_, h5⟩, ⟨?_, h6⟩, ⟨E1.n, h7⟩, T3, σ2, k2, W2, β2, E1.trans E2, h8⟩
    · unfold traceE
      rw [stepE_mono (ev_mono (Nat.le_max_left n n2)) hs]
      simp only [traceE_mono (ev_mono (Nat.le_max_right n n2)) h1]
    · rcases List.mem_cons.1 hx with rfl | hx
      · exact hH
      · exact h4 x hx
    · split
      · rename_i t x ho
        obtain ⟨b, off, q1, q2, q3, q4, q5⟩ := f4 t x ho
        exact ⟨b, off, v, q1, q2, q3, q4, q5⟩
      · trivial
    · split
      · rename_i hk
        rw [hw]
        simp only [execE, hk] at e1
        split at e1
        · cases e1
        · split at e1
          · rename_i b f ha
            obtain ⟨ty, cs, rfl⟩ := alloc_is ha
            exact ⟨ty, cs, f, ha⟩
          · cases e1
      · trivial
theorem open_ok7 {ops : List Oper} {T : List PV} {σ : List StB} {k : Nat} {Q : List PV → List StB → Nat → Prop} {W : Nat → Prop} {β : List Nat} {H : Heap} {T' : List AV} (hg : growS7 O C T σ ops = true)
    (h : wOps O C c true ops ops T σ k Q) (I : Sto H0 W0 c σ k W β H) (hr : All2 (RelV H W β) T T') :
    ∃ n tr T2 H2, traceE C (ev C n) ops ops T' H = some tr ∧ lastOf tr = some (T2, H2) ∧ drawOk C ops tr = true ∧ EndR H0 W0 c W β H Q T2 H2 := by
  unfold growS7 at hg
  rw [Bool.or_eq_true] at hg
  rcases hg with hg | hg
  rotate_left
  · exact open_ok6 hg h I hr
  rw [Bool.and_eq_true] at hg
  obtain ⟨g6, hg⟩ := hg
  simp only [appOk, Bool.and_eq_true] at hg
  obtain ⟨g5, g1, g3⟩ := hg
  have g5 : (O.a && hasApp ops) = true := by rw [g6, g5]; rfl
  have hT := hr.length
  have rel : ∀ y, RelV H W β (T.getD y undefP) (T'.getD y undefA) := fun y => TR_of hr (.tmp y)
  have hptr : ∀ y, isOptr T y = true → ∀ b, slB (T'.getD y undefA) = some b → b < H.n ∧ (¬ W b ∨ ∃ i o, T.getD y undefP = .optr i o ∧ β[i]? = some b) := fun y hy b hb => by
    unfold isOptr at hy
    split at hy
    · rename_i i o hp
      have hv := rel y
      rw [hp] at hv
      obtain ⟨b', hb', ha⟩ := hv.optr_inv
      rw [ha] at hb
      cases hb
      exact ⟨(I.bl i _ hb').2, .inr ⟨i, o, hp, hb'⟩⟩
    · rename_i n cs hp
      have hv := rel y
      rw [hp] at hv
      generalize T'.getD y undefA = u at hv hb
      cases hv with
      | clo hv =>
        cases hv with
        | lnil => cases hb
        | lsle => cases hb
        | sl hW hg => cases hb; exact ⟨Heap.lt_cells hg, .inl hW⟩
        | slu hW hg => cases hb; exact ⟨Heap.lt_cells hg, .inl hW⟩
    · cases hy
  have key := app_tr (ops := ops) (G0 := appG0 T ops) (T0 := T) (βs := β) (Ws := W) (St := fun b => W b ∧ ¬ ∃ y ∈ appG0 T ops, ∃ i o, T.getD y undefP = .optr i o ∧ β[i]? = some b) (Hs := H) (N := T.length)
    (fun y hy => by
      obtain ⟨h1, h2⟩ := List.mem_filter.1 hy
      exact ⟨by have := (List.mem_filter.1 h1).2; simpa using this, h1⟩)
    g5 (fun b _ hb => by
      rcases Classical.em (W b) with hw | hw
      · exact .inr (Classical.not_not.1 fun hn => hb ⟨hw, hn⟩)
      · exact .inl hw) h I hr (Nat.le_refl _) hT.symm g3
    (fun o ho d hd => by
      unfold isDst
      rw [List.any_eq_true]
      exact ⟨o, ho, by rw [hd]; simp⟩)
    (fun x hx b hb => by
      obtain ⟨h1, h2⟩ := List.mem_filter.1 hx
      obtain ⟨q1, q2⟩ := hptr x h2 b hb
      refine ⟨q1, fun hc => ?_⟩
      rcases q2 with q2 | ⟨i, o, q2, q3⟩
      · exact q2 hc.1
      · exact hc.2 ⟨x, hx, i, o, q2, q3⟩)
    (fun _ _ _ => rfl) (fun _ _ => rfl) (fun _ _ h => h) (fun _ _ h => h)
  obtain ⟨n, tl, T2, H2, h1, h2, h3, h4, h5, h6, h7, h8⟩ := key
  refine ⟨n, _, T2, H2, h1, h2, ?_, h8⟩
  exact draw_of4 (allMasks ops) g1 (by simp [h3]) (ldsM_of2 h4 (fun _ h => h) h5) h6 h7
end
end Go.PI
