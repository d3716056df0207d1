/- Own work of the verifier: PvLate PvCode PiRng PiCarry PiTrim. -/
import Derived.Test.YtgmhmahdmbdngaaGreatDoorFlAK
set_option linter.all false
set_option linter.deprecated false
namespace Go.PI
def tgtOf (o : Oper) : Option Tmp :=
 match o.op with
 | .store _ (.tmp y) _ => some y
 | _ => none
def isDst (ops : List Oper) (y : Tmp) : Bool := ops.any fun o => match o.dst with
 | some d => Nat.beq d y
 | none => false
def baseOf : Op -> Option Tmp
 | .fieldAddr _ (.tmp y) _ => some y
 | .nilCheck (.tmp y) => some y
 | .move (.tmp y) => some y
 | .assign (.tmp y) => some y
 | _ => none
def usesOf : Op -> Option Tmp
 | .load _ (.tmp y) => some y
 | op => baseOf op
def ixOf (T : List PV) (y : Tmp) : Option Nat :=
 match T.getD y undefP with
 | .optr i _ => some i
 | _ => none
def tgtsOf (ops : List Oper) : List Tmp := (ops.filterMap tgtOf).filter fun y => !isDst ops y
def stIx (T : List PV) (ops : List Oper) : List Nat := (tgtsOf ops).filterMap (ixOf T)
def ptrOk (T : List PV) (I : List Nat) (y : Tmp) : Bool :=
 match T.getD y undefP with
 | .optr j _ => !I.contains j
 | .lptr _ => true
 | .bptr _ => true
 | _ => false
def tgtOk (T : List PV) (I : List Nat) (y : Tmp) : Bool :=
 match ixOf T y with
 | some i => I.contains i
 | none => false
def flowG (o : Oper) (G : List Tmp) : List Tmp :=
 match o.dst with
 | none => G
 | some d => match baseOf o.op with
  | some y => if G.contains y then d :: G else G.filter fun x => !Nat.beq x d
  | none => G.filter fun x => !Nat.beq x d
def flowB (o : Oper) (G : List Tmp) : List Tmp :=
 match o.op with
 | .alloc _ => (match o.dst with
  | none => G
  | some d => d :: G)
 | _ => flowG o G
def lateOp (C : Ctx) (G B : List Tmp) : Op -> Bool
 | .load _ (.tmp x) => G.contains x
 | .load _ _ => false
 | .store _ (.tmp y) _ => B.contains y
 | .alloc _ => true
 | op => match kindOf C op with
  | .pure => true
  | _ => false
def lateGo (C : Ctx) (n : Nat) : List Oper -> List Tmp -> List Tmp -> Bool
 | [], _, _ => true
 | o :: os, G, B => o.guard.isNone && (match o.dst with | some d => Nat.blt d n | none => true) && lateOp C G B o.op && lateGo C n os (flowG o G) (flowB o B)
def allMasks (ops : List Oper) : List (List Bool) := ops.map fun _ => List.replicate (ops.length + 1) true
def isLiveB (σ : List StB) (i : Nat) : Bool :=
 match σ[i]? with
 | some (.live _ _) => true
 | _ => false
def lateOk (C : Ctx) (T : List PV) (σ : List StB) (ops : List Oper) : Bool :=
 growS4 C ops (allMasks ops) && (stIx T ops).all (isLiveB σ) &&
  lateGo C T.length ops (((ops.filterMap fun o => usesOf o.op).filter fun y => !isDst ops y).filter (ptrOk T (stIx T ops))) ((tgtsOf ops).filter (tgtOk T (stIx T ops)))
def growS6 (C : Ctx) (T : List PV) (σ : List StB) (ops : List Oper) : Bool := growS5 C ops || lateOk C T σ ops
def GI (Hs : Heap) (St : Nat -> Prop) (G : List Tmp) (T' : List AV) : Prop := ∀ x, x ∈ G -> ∃ b o, T'.getD x undefA = .ptr b o /\ b < Hs.n /\ ¬ St b
def TI2 (Hs : Heap) (St : Nat -> Prop) (G : List Tmp) (T' : List AV) : Prop := ∀ x, x ∈ G -> ∃ b o, T'.getD x undefA = .ptr b o /\ (St b ∨ Hs.n <= b)
theorem flow_ok {P : Nat -> Prop} {C : Ctx} {T' : List AV} {o : Oper} {v : AV} {G : List Tmp} (hd : ∀ d, o.dst = some d -> d < T'.length) (hv : ∀ y, baseOf o.op = some y -> ∀ b off, T'.getD y undefA = .ptr b off -> ∃ off', v = .ptr b off')
  (hG : ∀ x, x ∈ G -> ∃ b off, T'.getD x undefA = .ptr b off /\ P b) : ∀ x, x ∈ flowG o G -> ∃ b off, (putT T' o.dst v).getD x undefA = .ptr b off /\ P b := by
 intro x hx
 unfold flowG at hx
 cases hdst : o.dst with
 | none =>
  rw [hdst] at hx
  exact hG x hx
 | some d =>
  rw [hdst] at hx
  have hdl := hd d hdst
  have keep : x ∈ G -> x ≠ d -> ∃ b off, (putT T' (some d) v).getD x undefA = .ptr b off /\ P b := fun hm hn => by
   obtain ⟨b, off, h1, h2⟩ := hG x hm
   exact ⟨b, off, by simp only [putT, List.getD, List.getElem?_set_ne (Ne.symm hn)]; exact h1, h2⟩
  have drop : x ∈ G.filter (fun x => !Nat.beq x d) -> ∃ b off, (putT T' (some d) v).getD x undefA = .ptr b off /\ P b := fun hm => by
   obtain ⟨h1, h2⟩ := List.mem_filter.1 hm
   refine keep h1 fun e => ?_
   subst e
   simp at h2
  simp only at hx
  split at hx
  ·rename_i y hy
   split at hx
   ·rename_i hc
    rcases Decidable.em (x = d) with e | e
    ·subst e
     have hm : y ∈ G := by simpa using hc
     obtain ⟨b, off, h1, h2⟩ := hG y hm
     obtain ⟨off', rfl⟩ := hv y hy b off h1
     exact ⟨b, off', by simp [putT, List.getD, List.getElem?_set, hdl], h2⟩
    ·rcases List.mem_cons.1 hx with h | h
     ·exact absurd h e
     ·exact keep h e
   ·exact drop hx
  ·exact drop hx
def ldQ2 (C : Ctx) (Hs : Heap) (St : Nat -> Prop) : List Oper -> List (List AV × Heap) -> Prop
 | o :: os, (T, _) :: tr => (match o.op with
  | .load t x => ∃ b off v, opd T x = some (.ptr b off) /\ b < Hs.n /\ ¬ St b /\ loadE C t (.ptr b off) Hs = some v /\ v.same v = true
  | _ => True) /\ ldQ2 C Hs St os tr
 | _, _ => True
theorem atsP_all2 {b : Nat} {H0 : Heap} : ∀ {n : Nat} {tr : List (List AV × Heap)}, (∀ x ∈ tr, x.2.get b = H0.get b) -> atsP b H0 (List.replicate n true) tr
 | 0, _, _ => by unfold atsP; trivial
 | n + 1, [], _ => by unfold atsP; trivial
 | n + 1, x :: r, h => ⟨h x (by simp), atsP_all2 fun y hy => h y (by simp [hy])⟩
theorem ldsM_of2 {C : Ctx} {ops : List Oper} {Hs : Heap} {St : Nat -> Prop} {all : List (List AV × Heap)} (hall : ∀ x ∈ all, ∀ A, A < Hs.n -> ¬ St A -> x.2.get A = Hs.get A) {n : Nat} :
  ∀ {rest : List Oper} {tr : List (List AV × Heap)}, (∀ x ∈ tr, x ∈ all) -> ldQ2 C Hs St rest tr -> ldsM C ops all (rest.map fun _ => List.replicate n true) rest tr
 | [], tr, _, _ => by unfold ldsM; trivial
 | o :: os, [], _, _ => by unfold ldsM; trivial
 | o :: os, (T, H) :: tr, ht, hl => by
  refine ⟨?_, ldsM_of2 hall (fun x hx => ht x (by simp [hx])) hl.2⟩
  have h1 := hl.1
  split
  ·rename_i t x ho
   rw [ho] at h1
   obtain ⟨b, off, v, h2, h3, h4, h5, h6⟩ := h1
   have hH := hall _ (ht (T, H) (by simp)) b h3 h4
   split
   ·exact ⟨b, off, v, h2, by rw [load_get hH]; exact h5, h6, atsP_all2 fun y hy => by rw [hall y hy b h3 h4]; exact hH.symm⟩
   ·trivial
  ·trivial
theorem store_other2 {C : Ctx} {t : TypeId} {b o : Nat} {v : AV} {H H' : Heap} (hn : H.n < lim) (h : storeE C t (.ptr b o) v H = some H') {A : Nat} (hA : A ≠ b) : H'.get A = H.get A := by
 unfold storeE at h
 split at h
 ·rename_i he
  cases he
  split at h
  ·rename_i hb
   split at h
   ·cases h
    rw [Heap.get_set (Heap.lt_cells hb) hn, if_neg hA]
   ·cases h
  ·cases h
 ·cases h
theorem quiet_pure {C : Ctx} {op : Op} (h : kindOf C op = .pure) : quietOp op = true := by
 unfold quietOp
 split
 ·simp [kindOf] at h
 ·simp [kindOf] at h
 ·simp [kindOf] at h
 ·rfl
section
variable {C : Ctx} {H0 : Heap} {W0 : Nat -> Prop} {c : Nat}
theorem late_step {T : List PV} {T' : List AV} {o : Oper} {K : PV -> List StB -> Nat -> Prop} {σ : List StB} {k : Nat} {W : Nat -> Prop} {β : List Nat} {H Hs : Heap} {St : Nat -> Prop} {G B : List Tmp} (h : wOp C c true T σ k o.op K) (I : Sto H0 W0 c σ k W β H) (hr : All2 (RelV H W β) T T')
  (hn : Hs.n <= H.n) (g3 : lateOp C G B o.op = true) (hG : GI Hs St G T') (hB : TI2 Hs St B T') (hH : ∀ A, A < Hs.n -> ¬ St A -> H.get A = Hs.get A) :
  ∃ n v H1 r σ1 k1 W1 β1, execE C (ev C n) T' o H = some (v, H1) /\ Ext W β H W1 β1 H1 /\ Sto H0 W0 c σ1 k1 W1 β1 H1 /\ RelV H1 W1 β1 r v /\ K r σ1 k1 ∧
   (∀ A, A < Hs.n -> ¬ St A -> H1.get A = Hs.get A) /\ (∀ y, baseOf o.op = some y -> ∀ b off, T'.getD y undefA = .ptr b off -> ∃ off', v = .ptr b off') /\ (∀ e, o.op = .alloc e -> ∃ b off, v = .ptr b off /\ Hs.n <= b) ∧
   (∀ t x, o.op = .load t x -> ∃ b off, opd T' x = some (.ptr b off) /\ b < Hs.n /\ ¬ St b /\ loadE C t (.ptr b off) Hs = some v /\ v.same v = true) := by
 obtain ⟨dst, op, ty, pos, after, guard⟩ := o
 simp only at h g3 ⊢
 unfold lateOp at g3
 split at g3
 ·rename_i t x
  have h' : wOp C c false T σ k (.load t (.tmp x)) (fun v σ k => smP v = true /\ K v σ k) := h
  obtain ⟨n, v, H1, e1, r, σ1, k1, W1, β1, E1, I1, e2, ⟨hs, e3⟩, e4⟩ := op_ok (o := ⟨dst, .load t (.tmp x), ty, pos, after, guard⟩) false h' I fun y _ => TR_of hr y
  obtain ⟨b, off, p1, p2, p3⟩ := hG x (by simpa using g3)
  have hl : loadE C t (.ptr b off) H = some v /\ H1 = H := by
   simp only [execE, kindOf, opd, p1] at e1
   split at e1
   ·rename_i u hu
    cases e1
    exact ⟨hu, rfl⟩
   ·cases e1
  obtain ⟨hl, rfl⟩ := hl
  refine ⟨n, v, H1, r, σ1, k1, W1, β1, e1, E1, I1, e2, e3, hH, fun y hy => (by simp [baseOf] at hy), fun e he => (by cases he), fun t' x' he => ?_⟩
  cases he
  exact ⟨b, off, by simp only [opd, p1], p2, p3, by rw [← load_get (hH b p2 p3)]; exact hl, e2.same hs⟩
 ·cases g3
 ·rename_i t y a
  obtain ⟨n, v, H1, e1, r, σ1, k1, W1, β1, E1, I1, e2, e3, e4⟩ := op_ok (o := ⟨dst, .store t (.tmp y) a, ty, pos, after, guard⟩) true h I fun y _ => TR_of hr y
  obtain ⟨b, off, p1, p2⟩ := hB y (by simpa using g3)
  refine ⟨n, v, H1, r, σ1, k1, W1, β1, e1, E1, I1, e2, e3, fun A hA hs => ?_, fun y hy => (by simp [baseOf] at hy), fun e he => (by cases he), fun t' x' he => (by cases he)⟩
  have hne : A ≠ b := fun e => by
   subst e
   rcases p2 with p2 | p2
   ·exact hs p2
   ·omega
  simp only [execE, kindOf, effE, opd, p1] at e1
  split at e1
  ·split at e1
   ·rename_i q1 _ _ H' h2
    cases e1
    cases q1
    rw [store_other2 I.nlim h2 hne]
    exact hH A hA hs
   ·cases e1
  ·cases e1
 ·rename_i e
  obtain ⟨n, v, H1, e1, r, σ1, k1, W1, β1, E1, I1, e2, e3, e4⟩ := op_ok (o := ⟨dst, .alloc e, ty, pos, after, guard⟩) true h I fun y _ => TR_of hr y
  have hq := e4 rfl
  refine ⟨n, v, H1, r, σ1, k1, W1, β1, e1, E1, I1, e2, e3, fun A hA hs => by rw [hq.1 A (by omega)]; exact hH A hA hs, fun y hy => (by simp [baseOf] at hy), fun e' he => ?_, fun t' x' he => (by cases he)⟩
  simp only [execE, kindOf, allocE] at e1
  split at e1
  ·cases e1
  ·split at e1
   ·rename_i h2
    split at h2
    ·cases h2
     cases e1
     exact ⟨_, _, rfl, hn⟩
    ·cases h2
   ·cases e1
 ·rename_i hn1 hn2 hn3 hn4
  split at g3
  ·rename_i hk
   obtain ⟨n, v, H1, e1, r, σ1, k1, W1, β1, E1, I1, e2, e3, e4⟩ := op_ok (o := ⟨dst, op, ty, pos, after, guard⟩) true h I fun y _ => TR_of hr y
   have hq := e4 (quiet_pure hk)
   refine ⟨n, v, H1, r, σ1, k1, W1, β1, e1, E1, I1, e2, e3, fun A hA hs => by rw [hq.1 A (by omega)]; exact hH A hA hs, fun y hy b off hp => ?_, fun e' he => absurd he (hn4 e'), fun t' x' he => by subst he; simp [kindOf] at hk⟩
   simp only [execE, hk] at e1
   split at e1
   ·rename_i u hu
    cases e1
    unfold baseOf at hy
    split at hy
    ·cases hy
     simp only [pureE, opd, hp] at hu
     split at hu
     ·rename_i he
      cases he
      split at hu
      ·split at hu
       ·split at hu
        ·cases hu
        ·cases hu; exact ⟨_, rfl⟩
       ·cases hu
      ·cases hu
     ·cases hu
    ·cases hy
     simp only [pureE, opd, hp] at hu
     cases hu; exact ⟨_, rfl⟩
    ·cases hy
     simp only [pureE, opd, hp] at hu
     cases hu; exact ⟨_, rfl⟩
    ·cases hy
     simp only [pureE, opd, hp] at hu
     cases hu; exact ⟨_, rfl⟩
    ·cases hy
   ·cases e1
  ·cases g3
theorem late_tr {ops : List Oper} {St : Nat -> Prop} {Hs : Heap} :
  ∀ {rest : List Oper} {G B : List Tmp} {T : List PV} {σ : List StB} {k : Nat} {Q : List PV -> List StB -> Nat -> Prop} {W : Nat -> Prop} {β : List Nat} {H : Heap} {T' : List AV} {N : Nat},
  wOps C c true ops rest T σ k Q -> Sto H0 W0 c σ k W β H -> All2 (RelV H W β) T T' -> Hs.n <= H.n -> T'.length = N -> lateGo C N rest G B = true -> GI Hs St G T' -> TI2 Hs St B T' -> (∀ A, A < Hs.n -> ¬ St A -> H.get A = Hs.get A) →
  ∃ n tl T2 H2, traceE C (ev C n) ops rest T' H = some ((T', H) :: tl) /\ lastOf ((T', H) :: tl) = some (T2, H2) /\ tl.length = rest.length /\ (∀ x ∈ (T', H) :: tl, ∀ A, A < Hs.n -> ¬ St A -> x.2.get A = Hs.get A) ∧
   ldQ2 C Hs St rest ((T', H) :: tl) /\ alsP C ops rest ((T', H) :: tl) /\ mnP ((T', H) :: tl) /\ EndR H0 W0 c W β H Q T2 H2
 | [], G, B, T, σ, k, Q, W, β, H, T', N, h, I, hr, hn, hN, hl, hG, hB, hH => by
  refine ⟨0, [], T', H, rfl, rfl, rfl, fun x hx => ?_, trivial, trivial, trivial, T, σ, k, W, β, Ext.refl _ _ _, I, hr, h⟩
  rw [List.mem_singleton.1 hx]
  exact hH
 | o :: rest, G, B, T, σ, k, Q, W, β, H, T', N, h, I, hr, hn, hN, hl, hG, hB, hH => by
  have h : wG C c true ops o T σ k fun T' σ' k' => wOps C c true ops rest T' σ' k' Q := h
  simp only [lateGo, Bool.and_eq_true] at hl
  obtain ⟨⟨⟨g1, g2⟩, g3⟩, g4⟩ := hl
  have hw : ∀ ys, Region.wanted o ys = true := fun ys => by
   unfold Region.wanted
   cases hg : o.guard with
   | none => rfl
   | some x => rw [hg] at g1; simp at g1
  unfold wG at h
  rw [hw] at h
  obtain ⟨n, v, H1, r, σ1, k1, W1, β1, e1, E1, I1, e2, e3, f1, f2, f3, f4⟩ := late_step h I hr hn g3 hG hB hH
  have hK := pputK_ok e3
  have hdl : ∀ d, o.dst = some d -> d < T'.length := fun d hd => by
   rw [hd] at g2
   have h1 : Nat.ble (d + 1) N = true := g2
   have h2 : d + 1 <= N := Nat.le_of_ble_eq_true h1
   rw [hN]
   exact h2
  have hlen : (putT T' o.dst v).length = N := by
   cases o.dst with
   | none => exact hN
   | some d => simp [putT, hN]
  have hG1 : GI Hs St (flowG o G) (putT T' o.dst v) := flow_ok (P := fun b => b < Hs.n /\ ¬ St b) (C := C) hdl f2 hG
  have hB1 : TI2 Hs St (flowB o B) (putT T' o.dst v) := by
   have hf : ∀ x, x ∈ flowG o B -> ∃ b off, (putT T' o.dst v).getD x undefA = .ptr b off /\ (St b ∨ Hs.n <= b) := flow_ok (P := fun b => St b ∨ Hs.n <= b) (C := C) hdl f2 hB
   intro x hx
   unfold flowB at hx
   split at hx
   ·rename_i e ho
    obtain ⟨b, off, rfl, hb⟩ := f3 e ho
    split at hx
    ·rename_i hd
     rw [hd]
     exact hB x hx
    ·rename_i d hd
     rw [hd]
     have hdl' := hdl d hd
     by_cases e : x = d
     ·subst e
      exact ⟨b, off, by simp [putT, List.getD, List.getElem?_set, hdl'], .inr hb⟩
     ·rcases List.mem_cons.1 hx with h | h
      ·exact absurd h e
      ·obtain ⟨b', off', h1, h2⟩ := hB x h
       exact ⟨b', off', by simp only [putT, List.getD, List.getElem?_set_ne (Ne.symm e)]; exact h1, h2⟩
   ·exact hf x hx
  obtain ⟨n2, tl, T2, H2, h1, h2, h3, h4, h5, h6, h7, T3, σ2, k2, W2, β2, E2, h8⟩ := late_tr hK I1 (put_rel (RelVs.ext E1 hr) e2) (Nat.le_trans hn E1.n) hlen g4 hG1 hB1 f1
  have hs : stepE C (ev C n) ops o T' H = some (putT T' o.dst v, H1) := by
   unfold stepE
   rw [if_pos (hw _), e1]
  refine ⟨max n n2, _, T2, H2, ?_, lastOf_cons _ h2, by simpa using h3, fun x hx => ?_, ⟨?_, h5⟩, ⟨?_, h6⟩, ⟨E1.n, h7⟩, T3, σ2, k2, W2, β2, E1.trans E2, h8⟩
  ·unfold traceE
   rw [stepE_mono (ev_mono (Nat.le_max_left n n2)) hs]
   simp only [traceE_mono (ev_mono (Nat.le_max_right n n2)) h1]
  ·rcases List.mem_cons.1 hx with rfl | hx
   ·exact hH
   ·exact h4 x hx
  ·split
   ·rename_i t x ho
    obtain ⟨b, off, q1, q2, q3, q4, q5⟩ := f4 t x ho
    exact ⟨b, off, v, q1, q2, q3, q4, q5⟩
   ·trivial
  ·split
   ·rename_i hk
    rw [hw]
    simp only [execE, hk] at e1
    split at e1
    ·cases e1
    ·split at e1
     ·rename_i b f ha
      obtain ⟨ty, cs, rfl⟩ := alloc_is ha
      exact ⟨ty, cs, f, ha⟩
     ·cases e1
   ·trivial
theorem open_ok6 {ops : List Oper} {T : List PV} {σ : List StB} {k : Nat} {Q : List PV -> List StB -> Nat -> Prop} {W : Nat -> Prop} {β : List Nat} {H : Heap} {T' : List AV} (hg : growS6 C T σ ops = true)
  (h : wOps C c true ops ops T σ k Q) (I : Sto H0 W0 c σ k W β H) (hr : All2 (RelV H W β) T T') :
  ∃ n tr T2 H2, traceE C (ev C n) ops ops T' H = some tr /\ lastOf tr = some (T2, H2) /\ drawOk C ops tr = true /\ EndR H0 W0 c W β H Q T2 H2 := by
 unfold growS6 at hg
 rw [Bool.or_eq_true] at hg
 rcases hg with hg | hg
 ·exact open_ok hg h I hr
 simp only [lateOk, Bool.and_eq_true] at hg
 obtain ⟨⟨g1, g2⟩, g3⟩ := hg
 have hT := hr.length
 have live : ∀ i b, i ∈ stIx T ops -> β[i]? = some b -> W b := fun i b hi hb => by
  have := List.all_eq_true.1 g2 i hi
  unfold isLiveB at this
  split at this
  ·rename_i ty cs hs
   exact (I.live i ty cs b hs hb).1
  ·cases this
 have rel : ∀ y, RelV H W β (T.getD y undefP) (T'.getD y undefA) := fun y => TR_of hr (.tmp y)
 have key := late_tr (ops := ops) (St := fun b => ∃ i, i ∈ stIx T ops /\ β[i]? = some b) (Hs := H) (N := T.length) h I hr (Nat.le_refl _) hT.symm g3 (fun x hx => ?_) (fun x hx => ?_) (fun _ _ _ => rfl)
 ·obtain ⟨n, tl, T2, H2, h1, h2, h3, h4, h5, h6, h7, h8⟩ := key
  refine ⟨n, _, T2, H2, h1, h2, ?_, h8⟩
  exact draw_of4 (allMasks ops) g1 (by simp [h3]) (ldsM_of2 h4 (fun _ h => h) h5) h6 h7
 ·have hx := (List.mem_filter.1 hx).2
  have hv := rel x
  unfold ptrOk at hx
  split at hx
  ·rename_i j o hp
   rw [hp] at hv
   obtain ⟨b, hb, ha⟩ := hv.optr_inv
   refine ⟨b, o, ha, (I.bl j b hb).2, fun ⟨i, hi, hib⟩ => ?_⟩
   have := I.inj i j b hib hb
   subst this
   simp at hx
   exact hx hi
  ·rename_i cs hp
   rw [hp] at hv
   cases hv with
   | clo hv =>
    generalize T'.getD x undefA = a at hv
    cases hv with
    | lptr hW hg' hb' hh => exact ⟨_, _, rfl, Heap.lt_cells hg', fun ⟨i, hi, hib⟩ => hW (live i _ hi hib)⟩
  ·rename_i cs hp
   rw [hp] at hv
   generalize T'.getD x undefA = a at hv
   cases hv with
   | clo hv => cases hv
   | bptr hn' hg' hb' hh => exact ⟨_, _, rfl, Heap.lt_cells hg', fun ⟨i, hi, hib⟩ => hn' i hib⟩
  ·cases hx
 ·have hx := (List.mem_filter.1 hx).2
  have hv := rel x
  unfold tgtOk at hx
  split at hx
  ·rename_i i hi
   unfold ixOf at hi
   split at hi
   ·rename_i j o hp
    cases hi
    rw [hp] at hv
    obtain ⟨b, hb, ha⟩ := hv.optr_inv
    exact ⟨b, o, ha, .inl ⟨i, by simpa using hx, hb⟩⟩
   ·cases hi
  ·cases hx
end
end Go.PI

namespace Go.PI
structure PSt where
 T : List PV
 σ : List StB
 k : Nat
def seqW (N : (Ex -> PSt -> Prop) -> PSt -> Prop) (Q : Ex -> PSt -> Prop) : Ex -> PSt -> Prop
 | .normal, s => N Q s
 | .exit i, s => Q (.exit i) s
 | .goto l, s => Q (.goto l) s
 | .ret, s => Q .ret s
def blockW (id : Nat) (Q : Ex -> PSt -> Prop) : Ex -> PSt -> Prop
 | .normal, s => Q .normal s
 | .exit i, s => match Nat.beq i id with
  | true => Q .normal s
  | false => Q (.exit i) s
 | .goto l, s => Q (.goto l) s
 | .ret, s => Q .ret s
def FrzS (s s0 : PSt) : Prop := ∀ (H : Heap) (W : Nat -> Prop) (β : List Nat) (H0 : Heap) (W0 : Nat -> Prop) (c : Nat) (T' : List AV), Sto H0 W0 c s.σ s.k W β H -> All2 (RelV H W β) s.T T' -> ∃ W2, Sto H0 W0 c s0.σ s0.k W2 β H /\ All2 (RelV H W2 β) s0.T T'
def CI (I : Nat -> PSt -> Prop) (m : Nat) (s : PSt) : Prop := ∃ s0, FrzS s s0 /\ I m s0
theorem ci {I : Nat -> PSt -> Prop} {m : Nat} {s : PSt} (h : I m s) : CI I m s := ⟨s, fun _ W _ _ _ _ _ a b => ⟨W, a, b⟩, h⟩
theorem frzS_tmp {T : List PV} {σ : List StB} {k i : Nat} {s0 : PSt} {v : PV} (hv : T[i]? = some v) (h : frzAK σ v fun p σ' => s0 = ⟨T.set i p, σ', k⟩) : FrzS ⟨T, σ, k⟩ s0 := by
 intro H W β H0 W0 c T' I hr
 obtain ⟨a, h1, h2⟩ := hr.get hv
 obtain ⟨p, σ', W', f, r, rfl⟩ := frzAK_ok h I h2
 refine ⟨W', f.2.1, ?_⟩
 have := (RelVs.ext f.1 hr).set (RelV.clo (β := β) r) i
 have e : T'.set i a = T' := by
  apply List.ext_getElem?
  intro j
  by_cases hj : j = i
  ·subst hj
   rw [List.getElem?_set_self (List.getElem?_eq_some_iff.1 h1).1, h1]
  ·rw [List.getElem?_set_ne (Ne.symm hj)]
 rw [e] at this
 exact this
def loopW (I : Nat -> PSt -> Prop) (m : Nat) (Q : Ex -> PSt -> Prop) : Ex -> PSt -> Prop
 | .normal, s => ∃ m', m' < m /\ CI I m' s
 | .exit i, s => Q (.exit i) s
 | .goto l, s => Q (.goto l) s
 | .ret, s => Q .ret s
def wC (C : Ctx) (c : Nat) : Code -> PSt -> (Ex -> PSt -> Prop) -> Prop
 | .skip, s, Q => Q .normal s
 | .label _, s, Q => Q .normal s
 | .seq a b, s, Q => wC C c a s (seqW (fun Q s' => wC C c b s' Q) Q)
 | .cond x a b, ⟨T, σ, k⟩, Q => popdK T x fun x => match x with
  | .bool true => wC C c a ⟨T, σ, k⟩ Q
  | .bool false => wC C c b ⟨T, σ, k⟩ Q
  | _ => False
 | .block id b, s, Q => wC C c b s (blockW id Q)
 | .loop b, s, Q => ∃ I : Nat -> PSt -> Prop, (∃ m, CI I m s) /\ ∀ m s, I m s -> wC C c b s (loopW I m Q)
 | .exit i, s, Q => Q (.exit i) s
 | .goto l, s, Q => Q (.goto l) s
 | .ret, s, Q => Q .ret s
 | .region _ ops draw, ⟨T, σ, k⟩, Q => match draw with
  | true => growS6 C T σ ops.toList = true /\ wOps C c true ops.toList ops.toList T σ k fun T σ k => Q .normal ⟨T, σ, k⟩
  | false => wOps C c false ops.toList ops.toList T σ k fun T σ k => Q .normal ⟨T, σ, k⟩
 | .rangeFunc _ _ _ _, _, _ => False
 | .scope _, _, _ => False
 | .refuse _, _, _ => False
section
variable {C : Ctx} {H0 : Heap} {W0 : Nat -> Prop} {c : Nat}
def SR (H0 : Heap) (W0 : Nat -> Prop) (c : Nat) (s : PSt) (s' : St) : Prop := s'.D = [] /\ ∃ W β, Sto H0 W0 c s.σ s.k W β s'.H /\ All2 (RelV s'.H W β) s.T s'.T
theorem FrzS.sr {s s0 : PSt} {s' : St} (f : FrzS s s0) (r : SR H0 W0 c s s') : SR H0 W0 c s0 s' := by
 obtain ⟨hd, W, β, I, hr⟩ := r
 obtain ⟨W2, I2, hr2⟩ := f _ _ _ _ _ _ _ I hr
 exact ⟨hd, W2, β, I2, hr2⟩
theorem wC_ok {rd : Option Nat} : ∀ {code : Code} {s : PSt} {Q : Ex -> PSt -> Prop} {s' : St}, wC C c code s Q -> SR H0 W0 c s s' -> Runs C rd code s' fun e s2' => ∃ s2, SR H0 W0 c s2 s2' /\ Q e s2
 | .skip, s, Q, s', h, r => ⟨1, _, _, rfl, s, r, h⟩
 | .label _, s, Q, s', h, r => ⟨1, _, _, rfl, s, r, h⟩
 | .exit _, s, Q, s', h, r => ⟨1, _, _, rfl, s, r, h⟩
 | .goto _, s, Q, s', h, r => ⟨1, _, _, rfl, s, r, h⟩
 | .ret, s, Q, s', h, r => ⟨1, _, _, rfl, s, r, h⟩
 | .scope _, s, Q, s', h, r => h.elim
 | .refuse _, s, Q, s', h, r => h.elim
 | .rangeFunc _ _ _ _, s, Q, s', h, r => h.elim
 | .seq a b, s, Q, s', h, r => by
  obtain ⟨n, e, t, h1, s2, r2, h2⟩ := wC_ok (rd := rd) (code := a) h r
  by_cases he : e = .normal
  ·subst he
   obtain ⟨m, e2, t2, h3, h4⟩ := wC_ok (rd := rd) (code := b) h2 r2
   refine ⟨max n m + 1, e2, t2, ?_, h4⟩
   simp only [ev, evF, ev_mono (Nat.le_max_left n m) _ _ _ _ h1]
   exact ev_mono (Nat.le_max_right n m) _ _ _ _ h3
  ·refine ⟨n + 1, e, t, ?_, s2, r2, ?_⟩
   ·simp only [ev, evF, h1]
    cases e <;> first | rfl | exact absurd rfl he
   ·cases e <;> first | exact h2 | exact absurd rfl he
 | .cond x a b, ⟨T, σ, k⟩, Q, s', h, r => by
  obtain ⟨p, h1, h2⟩ := popdK_ok (show popdK T x _ from h)
  obtain ⟨hd, W, β, I, hr⟩ := r
  obtain ⟨v, g1, g2⟩ := pOp_rel h1 (TR_of hr x)
  split at h2
  ·obtain ⟨n, e, t, h3, h4⟩ := wC_ok (rd := rd) (code := a) h2 ⟨hd, W, β, I, hr⟩
   rw [g2.bool_inv] at g1
   exact ⟨n + 1, e, t, by simp only [ev, evF, g1]; exact h3, h4⟩
  ·obtain ⟨n, e, t, h3, h4⟩ := wC_ok (rd := rd) (code := b) h2 ⟨hd, W, β, I, hr⟩
   rw [g2.bool_inv] at g1
   exact ⟨n + 1, e, t, by simp only [ev, evF, g1]; exact h3, h4⟩
  ·exact h2.elim
 | .block id b, s, Q, s', h, r => by
  obtain ⟨n, e, t, h1, s2, r2, h2⟩ := wC_ok (rd := rd) (code := b) h r
  cases e with
  | exit i =>
   by_cases hi : i = id
   ·subst hi
    refine ⟨n + 1, .normal, t, by simp only [ev, evF, h1, if_true], s2, r2, ?_⟩
    simpa [blockW] using h2
   ·refine ⟨n + 1, .exit i, t, by simp only [ev, evF, h1, if_neg hi], s2, r2, ?_⟩
    have hf : Nat.beq i id = false := by
     rw [Bool.eq_false_iff]; exact fun hh => hi (Nat.eq_of_beq_eq_true hh)
    simpa [blockW, hf] using h2
  | normal => exact ⟨n + 1, .normal, t, by simp only [ev, evF, h1], s2, r2, h2⟩
  | goto l => exact ⟨n + 1, .goto l, t, by simp only [ev, evF, h1], s2, r2, h2⟩
  | ret => exact ⟨n + 1, .ret, t, by simp only [ev, evF, h1], s2, r2, h2⟩
 | .loop b, s, Q, s', h, r => by
  obtain ⟨I, ⟨m, s0, hf0, hI⟩, hstep⟩ := h
  have key : ∀ m s s', I m s -> SR H0 W0 c s s' -> ∃ n k e t, loopF (ev C n) rd b k s' = some (e, t) /\ ∃ s2, SR H0 W0 c s2 t /\ Q e s2 := by
   intro m
   induction m using Nat.strongRecOn with
   | ind m ih =>
    intro s s' hs r
    obtain ⟨n, e, t, h1, s2, r2, h2⟩ := wC_ok (rd := rd) (code := b) (hstep m s hs) r
    by_cases he : e = .normal
    ·subst he
     obtain ⟨m', hm, s3, hf, hI'⟩ := h2
     obtain ⟨n2, k2, e2, t2, h3, h4⟩ := ih m' hm s3 t hI' (hf.sr r2)
     refine ⟨max n n2, k2 + 1, e2, t2, ?_, h4⟩
     unfold loopF
     rw [ev_mono (Nat.le_max_left n n2) _ _ _ _ h1]
     exact loopF_mono (ev_mono (Nat.le_max_right n n2)) (Nat.le_refl _) h3
    ·refine ⟨n, 1, e, t, ?_, s2, r2, ?_⟩
     ·unfold loopF
      rw [h1]
      cases e <;> first | rfl | exact absurd rfl he
     ·cases e <;> first | exact h2 | exact absurd rfl he
  obtain ⟨n, k, e, t, h1, h2⟩ := key m s0 s' hI (hf0.sr r)
  refine ⟨max n k + 1, e, t, ?_, h2⟩
  simp only [ev, evF]
  exact loopF_mono (ev_mono (Nat.le_max_left n k)) (Nat.le_max_right n k) h1
 | .region id ops draw, ⟨T, σ, k⟩, Q, s', h, r => by
  unfold wC at h
  obtain ⟨T', H, D⟩ := s'
  obtain ⟨hd, W, β, I, hr⟩ := r
  simp only at hd I hr
  subst hd
  split at h
  ·obtain ⟨n, tr, T2, H2, h1, h2, h3, T3, σ2, k2, W2, β2, E, I2, h4, h5⟩ := open_ok6 h.1 h.2 I hr
   exact ⟨n + 1, .normal, ⟨T2, H2, []⟩, by simp only [ev, evF, h1, h3, h2, if_true], ⟨T3, σ2, k2⟩, ⟨rfl, W2, β2, I2, h4⟩, h5⟩
  ·obtain ⟨n, T2, H2, h1, T3, σ2, k2, W2, β2, E, I2, h4, h5⟩ := wOps_ok h I hr
   exact ⟨n + 1, .normal, ⟨T2, H2, []⟩, by simp [ev, evF, h1], ⟨T3, σ2, k2⟩, ⟨rfl, W2, β2, I2, h4⟩, h5⟩
/-! ### Where a body ends -/
def presK (C : Ctx) (T : List PV) (σ : List StB) : List ResultVar -> (List PV -> Prop) -> Prop
 | [], K => K []
 | .tmp t :: r, K => pgetK T t fun v => presK C T σ r fun vs => K (v :: vs)
 | .cell a t :: r, K => pgetK T a fun p => ∃ v, ploadE C σ t p = some v /\ presK C T σ r fun vs => K (v :: vs)
structure EndK (σ : List StB) (v : PV) (Q : PV -> Prop) : Prop where
 out : frzAK σ v fun r _ => Q r
structure EndsK (σ : List StB) (vs : List PV) (Q : PV -> Prop) : Prop where
 out : frzAsK σ vs fun rs _ => Q (.tup rs)
def wEnd (C : Ctx) (rs : List ResultVar) (Q : PV -> Prop) (e : Ex) (s : PSt) : Prop :=
 match e with
 | .exit _ => False
 | .goto _ => False
 | _ => presK C s.T s.σ rs fun vs => match vs with
  | [v] => EndK s.σ v Q
  | vs => EndsK s.σ vs Q
structure EndFK (σ : List StB) (v : PV) (Q : TypeId -> Nat -> Nat -> Nat -> List PV -> Prop) : Prop where
 out : ∃ i n cp z ty cs, v = .own i 0 n cp z /\ σ[i]? = some (.live ty cs) /\ Q ty n cp z cs
def wEndF (C : Ctx) (rs : List ResultVar) (Q : TypeId -> Nat -> Nat -> Nat -> List PV -> Prop) (e : Ex) (s : PSt) : Prop :=
 match e with
 | .exit _ => False
 | .goto _ => False
 | _ => presK C s.T s.σ rs fun vs => match vs with
  | [v] => EndFK s.σ v Q
  | _ => False
theorem getD_rel {H : Heap} {W : Nat -> Prop} {β : List Nat} {T : List PV} {T' : List AV} (h : All2 (RelV H W β) T T') (t : Nat) : RelV H W β (T.getD t undefP) (T'.getD t undefA) := TR_of h (.tmp t)
theorem presK_ok {H : Heap} {W : Nat -> Prop} {β : List Nat} {T : List PV} {T' : List AV} {σ : List StB} {k : Nat} (I : Sto H0 W0 c σ k W β H) (hr : All2 (RelV H W β) T T') : ∀ {rs : List ResultVar} {K : List PV -> Prop}, presK C T σ rs K →
  ∃ vs us, K vs /\ resultsE C T' H rs = some us /\ All2 (RelV H W β) vs us
 | [], K, h => ⟨[], [], h, rfl, .nil⟩
 | .tmp t :: r, K, h => by
  have h1 := pgetK_ok (show pgetK T t _ from h)
  obtain ⟨vs, us, h2, h3, h4⟩ := presK_ok I hr h1
  exact ⟨_, _, h2, by simp only [resultsE, h3], .cons (getD_rel hr t) h4⟩
 | .cell a t :: r, K, h => by
  have h1 := pgetK_ok (show pgetK T a _ from h)
  obtain ⟨v, h0, h1⟩ := h1
  obtain ⟨vs, us, h2, h3, h4⟩ := presK_ok I hr h1
  obtain ⟨b, o, u, -, -, g1, g2⟩ := load_ok I h0 (getD_rel hr a)
  exact ⟨_, _, h2, by simp only [resultsE, g1, h3], .cons g2 h4⟩
theorem start_rel {H : Heap} {ps : List PV} {avs : List AV} {n : Nat} (hw : ∀ b, W0 b -> b < H.n) (hr : All2 (RelV H W0 []) ps avs) (hn : H.n + c < lim) :
  SR H W0 c ⟨ps ++ List.replicate (n - ps.length) undefP, [], 0⟩ ⟨avs ++ List.replicate (n - avs.length) undefA, H, []⟩ := by
 refine ⟨rfl, W0, [], ⟨hn, Nat.zero_le _, Nat.le_refl _, Nat.le_refl _, fun _ _ => rfl, hw, fun _ h => h, fun _ h => .inl h, rfl, fun i b h => by simp at h, fun i t l b h => by simp at h, fun i t l b h => by simp at h, fun i j b h => by simp at h⟩, ?_⟩
 rw [hr.length]
 exact All2.append hr (All2.replicate undef_rel _)
theorem cb_of {f : FuncId} {fi : FI} {ps : List PV} {c : Nat} {Q : PV -> Prop} (hs : C.sum f = none) (hf : C.fn f = some fi)
  (h : wC C c fi.body ⟨ps ++ List.replicate (fi.ntmps - ps.length) undefP, [], 0⟩ (wEnd C fi.results Q)) : Cb C f ps c Q := by
 intro H W avs hw hr hn
 obtain ⟨n, e, t, h1, s2, ⟨hD, W2, β2, I, hr2⟩, h2⟩ := wC_ok (rd := none) h (start_rel hw hr hn)
 obtain ⟨T', H2, D'⟩ := t
 simp only at hD I hr2
 subst hD
 have hb : sumE C f avs H = none := by simp [sumE, hs]
 have key : (e = .normal ∨ e = .ret) /\ ∃ us v, resultsE C T' H2 fi.results = some us /\ (match us with | [v] => v | us => .tup us) = v /\ ∃ r W3, Q r /\ RelC H2 W3 r v /\ ∀ A, W A -> W3 A := by
  have h3 : (e = .normal ∨ e = .ret) /\ presK C s2.T s2.σ fi.results fun vs => match vs with
   | [v] => EndK s2.σ v Q
   | vs => EndsK s2.σ vs Q := by
   cases e with
   | normal => exact ⟨.inl rfl, h2⟩
   | ret => exact ⟨.inr rfl, h2⟩
   | exit i => exact h2.elim
   | goto i => exact h2.elim
  refine ⟨h3.1, ?_⟩
  obtain ⟨vs, us, h4, h5, h6⟩ := presK_ok I hr2 h3.2
  refine ⟨us, _, h5, rfl, ?_⟩
  split at h4
  ·cases h6 with
   | cons a b =>
    cases b
    obtain ⟨r, σ3, W3, f3, r3, q3⟩ := frzAK_ok h4.out I a
    exact ⟨r, W3, q3, r3, f3.2.1.w0⟩
  ·rename_i hne
   obtain ⟨rs, σ3, W3, f3, r3, q3⟩ := frzAsK_ok h4.out I h6
   refine ⟨.tup rs, W3, q3, ?_, f3.2.1.w0⟩
   have hl := h6.length
   cases us with
   | nil => exact .tup r3
   | cons u us => cases us with
    | nil =>
     cases vs with
     | nil => simp at hl
     | cons p vs => cases vs with
      | nil => exact absurd rfl (hne p)
      | cons _ _ => simp at hl
    | cons _ _ => exact .tup r3
 obtain ⟨he, us, v, h3, h4, r, W3, h5, h6, h7⟩ := key
 refine ⟨n, v, H2, ?_, r, h5, h6.mono (fun _ _ _ => rfl) (fun A _ h => h7 A h), I.lo, by have := I.hi; have := I.kc; omega, I.keep⟩
 unfold call callF callB
 rw [hb]
 simp only [hf, h1]
 have hsm : shutMarks [] H2 = some H2 := rfl
 rcases he with rfl | rfl
 ·simp only [hsm, h3]
  cases us with
  | nil => rw [← h4]
  | cons u us => cases us with
   | nil => rw [← h4]
   | cons _ _ => rw [← h4]
 ·simp only [hsm, h3]
  cases us with
  | nil => rw [← h4]
  | cons u us => cases us with
   | nil => rw [← h4]
   | cons _ _ => rw [← h4]
theorem ct_of {f : FuncId} {fi : FI} {ps : List PV} {c : Nat} {Q : PV -> Prop} (hs : C.sum f = none) (hf : C.fn f = some fi)
  (h : wC C c fi.body ⟨ps ++ List.replicate (fi.ntmps - ps.length) undefP, [], 0⟩ (wEnd C fi.results Q)) : Ct C f ps c Q := (cb_of hs hf h).ct
theorem cf_of {f : FuncId} {fi : FI} {ps : List PV} {c : Nat} {Q : TypeId -> Nat -> Nat -> Nat -> List PV -> Prop} (hs : C.sum f = none) (hf : C.fn f = some fi)
  (h : wC C c fi.body ⟨ps ++ List.replicate (fi.ntmps - ps.length) undefP, [], 0⟩ (wEndF C fi.results Q)) : Cfr C f ps c Q := by
 intro H W avs hw hr hn
 obtain ⟨n, e, t, h1, s2, ⟨hD, W2, β2, I, hr2⟩, h2⟩ := wC_ok (rd := none) h (start_rel hw (RelVs.clo hr) hn)
 obtain ⟨T', H2, D'⟩ := t
 simp only at hD I hr2
 subst hD
 have hb : sumE C f avs H = none := by simp [sumE, hs]
 have h3 : (e = .normal ∨ e = .ret) /\ presK C s2.T s2.σ fi.results fun vs => match vs with
  | [v] => EndFK s2.σ v Q
  | _ => False := by
  cases e with
  | normal => exact ⟨.inl rfl, h2⟩
  | ret => exact ⟨.inr rfl, h2⟩
  | exit i => exact h2.elim
  | goto i => exact h2.elim
 obtain ⟨vs, us, h4, h5, h6⟩ := presK_ok I hr2 h3.2
 split at h4
 ·rename_i v
  obtain ⟨i, m, cp, z, ty, cs, rfl, hi, h4⟩ := h4.out
  cases h6 with
  | cons a b' =>
   cases b'
   obtain ⟨b, hβ, rfl⟩ := a.own_inv
   obtain ⟨hW, acs, g1, g2⟩ := I.live i ty cs b hi hβ
   have hbb := I.bl i b hβ
   refine ⟨n, _, H2, ?_, ty, m, cp, z, cs, b, acs, h4, rfl, hbb.1, hbb.2, g1, All2.mono' (fun _ _ h => h.mono (fun _ _ _ => rfl) (fun A _ h => ?_)) g2, I.lo, by have := I.hi; have := I.kc; omega, I.keep⟩
   ·unfold call callF callB
    rw [hb]
    simp only [hf, h1]
    have hsm : shutMarks [] H2 = some H2 := rfl
    rcases h3.1 with rfl | rfl
    ·simp only [hsm, h5]
    ·simp only [hsm, h5]
   ·rcases h with h | rfl
    ·exact I.w0 A h
    ·exact hW
 ·exact h4.elim
end
end Go.PI

open Go.Proofs
namespace Go.PI
open IM
theorem range_of {C : Ctx} {f : Operand} {ps : Array Tmp} {assign body : Code} {T : List AV} {H : Heap} {D : List Nat} {Q : Ex -> St -> Prop} {g : FuncId} {first caps : List AV}
  (hn : H.n + 1 < lim) (hf : opd T f = some (.fn g first caps)) (hg : (C.fn g).isNone = false)
  (h : Cl C g (first ++ [.yld (H.n + 1)] ++ caps) ((H.push .dfr).push (.loop { state := .ready, pending := none, tmps := T, params := ps, assign := assign, body := body, dfr := H.n })) fun _ H3 =>
   ∃ lp, H3.get (H.n + 1) = .loop lp /\ lp.state ≠ .busy ∧
    match lp.pending with
    | none => Q .normal ⟨T, H3.set (H.n + 1) .dead, H.n :: D⟩
    | some c => Runs C none c ⟨T, H3.set (H.n + 1) .dead, H.n :: D⟩ Q) :
  ∃ n e s', rangeF C (ev C n) none f ps assign body ⟨T, H, D⟩ = some (e, s') /\ Q e s' := by
 obtain ⟨n, v, H3, h1, lp, h2, h3, h4⟩ := h
 have hp : (H.push .dfr).n = H.n + 1 := rfl
 unfold call at h1
 cases hpend : lp.pending with
 | none =>
  rw [hpend] at h4
  refine ⟨n, _, _, ?_, h4⟩
  simp only [rangeF, hf, hg, startE, hp, h1, h2, hpend, if_neg h3]
  rw [if_neg (by omega)]
  simp
 | some c =>
  rw [hpend] at h4
  obtain ⟨m, e, s', g1, g2⟩ := h4
  refine ⟨max n m, e, s', ?_, g2⟩
  have h1' := callF_mono (C := C) (ev_mono (Nat.le_max_left n m)) h1
  simp only [rangeF, hf, hg, startE, hp, h1', h2, hpend, if_neg h3]
  rw [if_neg (by omega)]
  simpa using ev_mono (Nat.le_max_right n m) _ _ _ _ g1
theorem yield_of {C : Ctx} {H : Heap} {K : AV -> Heap -> Prop} {l : Nat} {us : List AV} {L : ALoop}
  (hL : H.get l = .loop L) (hlen : us.length = L.params.size) (hst : L.state = .ready)
  (h : Runs C (some l) L.assign ⟨foldPar L.tmps L.params.toList us, H, []⟩ fun e s1 => e = .normal /\ s1.D = [] /\ ∃ L1, s1.H.get l = .loop L1 /\ L1.state = .ready ∧
   Runs C (some l) L.body ⟨s1.T, s1.H.set l (.loop { L1 with state := .busy }), []⟩ fun e s2 => s2.D = [] /\ ∃ L2, s2.H.get l = .loop L2 ∧
    K (.bool e.jump.isNone) (s2.H.set l (.loop { L2 with state := if e.jump.isNone then .ready else .done, pending := e.jump }))) :
  ∃ n v H', yieldF (ev C n) l us H = some (v, H') /\ K v H' := by
 obtain ⟨n1, e1, ⟨T1, H1, D1⟩, h1, rfl, rfl, L1, h2, h3, n2, e2, ⟨T2, H2, D2⟩, h4, h5, L2, h6, h7⟩ := h
 simp only at h2 h4 h5 h6 h7
 subst h5
 refine ⟨max n1 n2, _, _, ?_, h7⟩
 simp only [yieldF, hL, hlen, hst]
 rw [if_pos ⟨trivial, trivial⟩]
 rw [ev_mono (Nat.le_max_left n1 n2) _ _ _ _ h1]
 simp only [h2, h3]
 rw [ev_mono (Nat.le_max_right n1 n2) _ _ _ _ h4]
 simp only [h6, if_true]
/-! ### slices.Backward -/
set_option maxRecDepth 10000
set_option maxHeartbeats 1000000
theorem fn228 : ctx.fn 228 = some c228 := by kernel_rfl
theorem fn182 : ctx.fn 182 = some c182 := by kernel_rfl
variable (S : FuncId -> Option (List AV -> Heap -> Option (AV × Heap)))
theorem backward_run (h182 : S 182 = none) {H : Heap} {v : AV} (hn : H.n + 2 < lim) : Cl (ctx.plus S) 182 [v] H fun r H' => r = .fn 228 [] [.ptr H.n 0] /\ H' = H.push (.cells true 22 v.cells) := by
 refine cl_of h182 fn182 ?_
 refine ⟨by omega, ?_⟩
 refine ⟨_, rfl, ?_⟩
 exact ⟨rfl, rfl⟩
theorem back_run (h228 : S 228 = none) {H0 : Heap} {l b : Nat} {v : AV} {xs : List Int} (J : Nat -> Heap -> Prop) (R : Heap -> Prop) (hlen : xs.length <= 1073741824)
  (hJ : ∀ k H, J k H -> loadE (ctx.plus S) 22 (.ptr b 0) H = some v /\ Sl H v xs)
  (hy : ∀ k e H, J (k + 1) H -> xs[k]? = some e -> ∃ n v' H', yieldF (ev (ctx.plus S) n) l [iv k, iv e] H = some (v', H') /\ ((v' = .bool true /\ J k H') ∨ (v' = .bool false /\ R H')))
  (hend : ∀ H, J 0 H -> R H) (h : J xs.length H0) : Cl (ctx.plus S) 228 [.yld l, .ptr b 0] H0 fun _ H' => R H' := by
 refine cl_of h228 fn228 ?_
 have hT : (ctx.plus S).ty = tget := rfl
 obtain ⟨hl, hs⟩ := hJ _ _ h
 refine ⟨v, hl, ?_⟩
 refine ⟨_, len_sl hT (v := v) rfl hs, ?_⟩
 refine ⟨⟨by omega, by omega⟩, ?_⟩
 refine ⟨fun m s => ∃ (k : Nat) (n : Int) (H' : Heap) (j2 j4 j5 j6 j7 j8 j9 j10 j11 j12 j13 j14 j15 j16 j17 j18 : AV),
  s = ⟨[.yld l, .ptr b 0, j2, iv n, j4, j5, j6, j7, j8, j9, j10, j11, j12, j13, j14, j15, j16, j17, j18], H', []⟩ /\ m = k /\ n = (k : Int) - 1 /\ k <= xs.length /\ J k H', ⟨xs.length, ?_⟩, ?_⟩
 ·exact ⟨xs.length, _, H0, _, _, _, _, _, _, _, _, _, _, _, _, _, _, _, _, rfl, rfl, rfl, Nat.le_refl _, h⟩
 ·rintro m s ⟨k, n, H', j2, j4, j5, j6, j7, j8, j9, j10, j11, j12, j13, j14, j15, j16, j17, j18, rfl, hm, rfl, hk, hJk⟩
  refine ⟨fun hge => ?_, fun hlt => ?_⟩
  ·obtain ⟨k, rfl⟩ : ∃ j, k = j + 1 := ⟨k - 1, by omega⟩
   obtain ⟨hl', hs'⟩ := hJ _ _ hJk
   obtain ⟨e, he⟩ : ∃ e, xs[k]? = some e := ⟨xs[k]'(by omega), List.getElem?_eq_getElem _⟩
   have hk1 : ((k + 1 : Nat) : Int) - 1 = (k : Int) := by omega
   rw [hk1]
   refine ⟨v, hl', ?_⟩
   refine ⟨_, idx_sl hT (v := v) (n := (k : Int)) (k := k) rfl rfl hs' rfl (by omega), ?_⟩
   refine ⟨_, load_sl hT hs' he, ?_⟩
   obtain ⟨n, v', H2, hy1, hy2⟩ := hy k e H' hJk he
   refine ⟨n, v', H2, ?_, ?_⟩
   ·simp only [effE, opd, opds]
    exact hy1
   ·rcases hy2 with ⟨rfl, hJ2⟩ | ⟨rfl, hR⟩
    ·refine ⟨⟨by omega, by omega⟩, ?_⟩
     exact ⟨k, by omega, k, _, H2, _, _, _, _, _, _, _, _, _, _, _, _, _, _, _, _, rfl, rfl, rfl, by omega, hJ2⟩
    ·exact hR
  ·have h0 : k = 0 := by omega
   subst h0
   exact hend _ hJk
theorem range_back (h228 : S 228 = none) {f : Operand} {p q : Tmp} {assign body : Code} {T : List AV} {H1 : Heap} {D : List Nat} {Q : Ex -> St -> Prop} {b : Nat} {v : AV} {xs : List Int}
  (hn : H1.n + 2 < lim) (hf : opd T f = some (.fn 228 [] [.ptr b 0])) (hlen : xs.length <= 1073741824)
  (I : Nat -> Heap -> Prop)
  (hI : ∀ k H, I k H -> loadE (ctx.plus S) 22 (.ptr b 0) H = some v /\ Sl H v xs /\ H.n < lim /\ H1.n + 1 < H.n)
  (hfr : ∀ k H x H', I k H -> Upd H (H1.n + 1) x H' -> I k H')
  (h0 : ∀ H, H.n = H1.n + 2 -> (∀ A, A < H1.n -> H.get A = H1.get A) -> H.get H1.n = .dfr -> I xs.length H)
  (hstep : ∀ k e H L, I (k + 1) H -> xs[k]? = some e -> H.get (H1.n + 1) = .loop L →
   vC (ctx.plus S) (some (H1.n + 1)) assign ⟨(T.set p (iv k)).set q (iv e), H, []⟩ fun e1 s1 => e1 = .normal /\ s1.D = [] /\ s1.H = H /\ ∀ H' L', Upd H (H1.n + 1) (.loop L') H' →
    vC (ctx.plus S) (some (H1.n + 1)) body ⟨s1.T, H', []⟩ fun e2 s2 => s2.D = [] /\ s2.H.get (H1.n + 1) = .loop L' /\ (match e2 with
     | .normal => I k s2.H
     | .goto _ => False
     | e2 => s2.H.n < lim /\ H1.n + 1 < s2.H.n /\ ∀ H3, Upd s2.H (H1.n + 1) .dead H3 -> Q e2 ⟨T, H3, H1.n :: D⟩))
  (hend : ∀ H H3, I 0 H -> Upd H (H1.n + 1) .dead H3 -> Q .normal ⟨T, H3, H1.n :: D⟩) :
  ∃ n e s', rangeF (ctx.plus S) (ev (ctx.plus S) n) none f #[p, q] assign body ⟨T, H1, D⟩ = some (e, s') /\ Q e s' := by
 have hT : (ctx.plus S).ty = tget := rfl
 refine range_of (by omega) hf (by show (ctx.fn 228).isNone = false; rw [fn228]; rfl) ?_
 have hp1 := Heap.get_push (H := H1) (b := .dfr) (by omega)
 have hpn : (H1.push .dfr).n = H1.n + 1 := rfl
 have hp2 := Heap.get_push (H := H1.push .dfr) (b := .loop { state := .ready, pending := none, tmps := T, params := #[p, q], assign := assign, body := body, dfr := H1.n }) (by omega)
 have hpn2 : ((H1.push .dfr).push (.loop { state := .ready, pending := none, tmps := T, params := #[p, q], assign := assign, body := body, dfr := H1.n })).n = H1.n + 2 := rfl
 generalize hL0 : ({ state := .ready, pending := none, tmps := T, params := #[p, q], assign := assign, body := body, dfr := H1.n } : ALoop) = L0 at hp2 hpn2 ⊢
 generalize (H1.push .dfr).push (.loop L0) = H2 at hp2 hpn2 ⊢
 rw [hpn] at hp2
 refine (back_run S h228 (l := H1.n + 1) (b := b) (v := v) (xs := xs) (fun k H => I k H /\ H.get (H1.n + 1) = .loop L0)
  (fun H3 => ∃ lp, H3.get (H1.n + 1) = .loop lp /\ lp.state ≠ .busy /\ match lp.pending with
    | none => Q .normal ⟨T, H3.set (H1.n + 1) .dead, H1.n :: D⟩
    | some c => Runs (ctx.plus S) none c ⟨T, H3.set (H1.n + 1) .dead, H1.n :: D⟩ Q) hlen (fun k H h => ⟨(hI k H h.1).1, (hI k H h.1).2.1⟩) ?_ ?_ ?_).mono (fun _ _ h => h)
 ·rintro k e H ⟨hIk, hl⟩ he
  obtain ⟨-, -, hHn, hHl⟩ := hI _ _ hIk
  refine yield_of (K := fun v' H' => (v' = .bool true /\ I k H' /\ H'.get (H1.n + 1) = .loop L0) ∨ (v' = .bool false /\ ∃ lp, H'.get (H1.n + 1) = .loop lp /\ lp.state ≠ .busy /\ match lp.pending with
    | none => Q .normal ⟨T, H'.set (H1.n + 1) .dead, H1.n :: D⟩
    | some c => Runs (ctx.plus S) none c ⟨T, H'.set (H1.n + 1) .dead, H1.n :: D⟩ Q)) hl (by subst hL0; rfl) (by subst hL0; rfl) ?_
  have hs := hstep k e H L0 hIk he hl
  have h1 := vC_ok hs
  subst hL0
  refine h1.mono ?_
  rintro e1 ⟨T1, H1', D1⟩ ⟨rfl, rfl, rfl, h2⟩
  refine ⟨rfl, rfl, _, hl, rfl, ?_⟩
  have hU := upd_set (b := H1.n + 1) (x := .loop { state := .busy, pending := none, tmps := T, params := #[p, q], assign := assign, body := body, dfr := H1.n }) hHl hHn
  refine (vC_ok (h2 _ _ hU)).mono ?_
  rintro e2 ⟨T2, H2', D2⟩ ⟨rfl, h3, h4⟩
  refine ⟨rfl, _, h3, ?_⟩
  cases e2 with
  | normal =>
   obtain ⟨-, -, g1, g2⟩ := hI _ _ h4
   have hU2 := upd_set (b := H1.n + 1) (x := .loop { state := .ready, pending := none, tmps := T, params := #[p, q], assign := assign, body := body, dfr := H1.n }) g2 g1
   exact .inl ⟨rfl, hfr _ _ _ _ h4 hU2, hU2.at_⟩
  | goto g => exact h4.elim
  | exit i =>
   obtain ⟨g1, g2, g3⟩ := h4
   have hU2 := upd_set (b := H1.n + 1) (x := .loop { state := .done, pending := some (.exit i), tmps := T, params := #[p, q], assign := assign, body := body, dfr := H1.n }) g2 g1
   have hU3 := upd_set (b := H1.n + 1) (x := .dead) (by rw [hU2.n]; exact g2) (by rw [hU2.n]; exact g1)
   refine .inr ⟨rfl, _, hU2.at_, by simp, ?_⟩
   exact ⟨1, _, _, rfl, g3 _ (hU2.trans hU3)⟩
  | ret =>
   obtain ⟨g1, g2, g3⟩ := h4
   have hU2 := upd_set (b := H1.n + 1) (x := .loop { state := .done, pending := some .ret, tmps := T, params := #[p, q], assign := assign, body := body, dfr := H1.n }) g2 g1
   have hU3 := upd_set (b := H1.n + 1) (x := .dead) (by rw [hU2.n]; exact g2) (by rw [hU2.n]; exact g1)
   refine .inr ⟨rfl, _, hU2.at_, by simp, ?_⟩
   exact ⟨1, _, _, rfl, g3 _ (hU2.trans hU3)⟩
 ·rintro H ⟨hI0, hl⟩
  obtain ⟨-, -, g1, g2⟩ := hI _ _ hI0
  refine ⟨L0, hl, by subst hL0; simp, ?_⟩
  have hU3 := upd_set (b := H1.n + 1) (x := .dead) g2 g1
  subst hL0
  exact hend _ _ hI0 hU3
 ·refine ⟨h0 _ hpn2 (fun A hA => ?_) ?_, ?_⟩
  ·rw [hp2, if_neg (by omega), hp1, if_neg (by omega)]
  ·rw [hp2, if_neg (by omega), hp1, if_pos rfl]
  ·rw [hp2, if_pos rfl]
end Go.PI

open Go.Proofs
namespace Go.PI
open IM
theorem fn183 : ctx.fn 183 = some c183 := by kernel_rfl
theorem carryL_snoc (xs : List Int) (e : Int) : ∀ o, carryL o (xs ++ [e]) = carryL o xs ++ [(e.tmod 100000000 + carryO o xs).tmod 100000000] /\ carryO o (xs ++ [e]) = e.tdiv 100000000 + (e.tmod 100000000 + carryO o xs).tdiv 100000000 := by
 induction xs with
 | nil => intro o; simp [carryL, carryO]
 | cons x xs ih => intro o; simp only [List.cons_append, carryL, carryO, ih]; simp
theorem take_snoc {xs : List Int} {i : Nat} {x : Int} (h : xs[i]? = some x) : xs.take (i + 1) = xs.take i ++ [x] := by
 rw [List.take_add_one, h]; rfl
theorem drop_of_get {xs : List Int} {i : Nat} {x : Int} (h : xs[i]? = some x) : xs.drop i = x :: xs.drop (i + 1) := by
 obtain ⟨h1, h2⟩ := List.getElem?_eq_some_iff.1 h
 rw [List.drop_eq_getElem_cons h1, h2]
set_option maxRecDepth 10000
set_option maxHeartbeats 1000000
theorem carry_run (S : FuncId -> Option (List AV -> Heap -> Option (AV × Heap))) (hS : S 183 = none) {H : Heap} {v : AV} {b : Nat} {zs : List Int} {l : Nat} (hn : H.n < lim) (hlb : l <= 1073741824) (h : Ow H v b zs l) (hr : ∀ x ∈ zs.take l, In64 x) :
  Cl (ctx.plus S) 183 [v] H fun r H' => r = iv (carryO 0 (zs.take l)) /\ Upd H b (.cells true 3 (ints (carryL 0 (zs.take l) ++ zs.drop l))) H' := by
 refine cl_of hS fn183 ?_
 have hT : (ctx.plus S).ty = tget := rfl
 have hlen : (zs.take l).length = l := by have := h.2.1; simp; omega
 refine ⟨_, len_sl hT (v := v) rfl h.sl, ?_⟩
 rw [hlen]
 refine ⟨fun m s => ∃ (i : Nat) (n o : Int) (H' : Heap) (j1 j2 j4 j5 j6 j10 j11 j12 j13 j14 j15 j16 j17 j18 j19 j20 j21 j22 j23 j24 j25 j26 j27 j28 j29 : AV),
  s = ⟨[v, j1, j2, iv o, j4, j5, j6, v, iv l, iv n, j10, j11, j12, j13, j14, j15, j16, j17, j18, j19, j20, j21, j22, j23, j24, j25, j26, j27, j28, j29], H', []⟩ /\ m = l - i /\ n = i /\ o = carryO 0 (zs.take i) /\ i <= l ∧
  Upd H b (.cells true 3 (ints (carryL 0 (zs.take i) ++ zs.drop i))) H', ⟨l, ?_⟩, ?_⟩
 ·exact ⟨0, 0, 0, H, _, _, _, _, _, _, _, _, _, _, _, _, _, _, _, _, _, _, _, _, _, _, _, _, _, rfl, rfl, rfl, rfl, Nat.zero_le _, Upd.refl (by simpa [carryL] using h.1)⟩
 ·rintro m s ⟨i, n, o, H', j1, j2, j4, j5, j6, j10, j11, j12, j13, j14, j15, j16, j17, j18, j19, j20, j21, j22, j23, j24, j25, j26, j27, j28, j29, rfl, rfl, rfl, ho, hi, hU⟩
  have hlz := h.2.1
  refine ⟨fun hlt => ?_, fun hge => ?_⟩
  ·have hi' : i < l := by omega
   obtain ⟨e, he⟩ : ∃ e, zs[i]? = some e := ⟨zs[i]'(by omega), List.getElem?_eq_getElem _⟩
   have heB := hr e (List.mem_of_getElem? (i := i) (by rw [List.getElem?_take, if_pos hi']; exact he))
   have hO := carryO_small (zs.take i) (fun x hx => hr x (by rw [show zs.take i = (zs.take l).take i by rw [List.take_take, Nat.min_eq_left hi]] at hx; exact List.mem_of_mem_take hx)) 0 (by unfold OvB; omega)
   have hO' := ovB_next heB hO
   obtain ⟨s1, s2⟩ := carryL_snoc (zs.take i) e 0
   rw [← ho] at hO hO' s1 s2
   have hcl : (carryL 0 (zs.take i)).length = i := by rw [carry_length]; simp; omega
   have hOw : Ow H' v b (carryL 0 (zs.take i) ++ zs.drop i) l := h.keep hU.at_ (by simp [hcl]; omega)
   have hget : ((carryL 0 (zs.take i) ++ zs.drop i).take l)[i]? = some e := by
    rw [List.getElem?_take, if_pos hi', List.getElem?_append_right (by omega), hcl]
    simpa using he
   have hsl := hOw.sl
   have hlen' : ((carryL 0 (zs.take i) ++ zs.drop i).take l).length = l := by simp [hcl]; omega
   unfold OvB at hO hO'
   have t1 := tq e
   have t2 := tq (e.tmod 100000000 + o)
   refine ⟨_, idx_sl hT (v := v) (n := i) rfl rfl hsl rfl (by omega), ?_⟩
   refine ⟨_, load_sl hT hsl hget, ?_⟩
   refine ⟨by decide, ?_⟩
   refine ⟨⟨by omega, by omega⟩, ?_⟩
   refine ⟨by decide, ?_⟩
   refine ⟨_, idx_sl hT (v := v) (n := i) rfl rfl hsl rfl (by omega), ?_⟩
   refine ⟨_, store_ow hT hOw hi', ?_⟩
   refine ⟨⟨by decide, ⟨by omega, by omega⟩⟩, ?_⟩
   refine ⟨⟨by decide, ⟨by omega, by omega⟩⟩, ?_⟩
   refine ⟨⟨by omega, by omega⟩, ?_⟩
   refine ⟨⟨by omega, by omega⟩, ?_⟩
   refine ⟨l - (i + 1), by omega, i + 1, _, _, _, _, _, _, _, _, _, _, _, _, _, _, _, _, _, _, _, _, _, _, _, _, _, _, _, _, rfl, rfl, rfl, ?_, hi', ?_⟩
   ·rw [take_snoc he, s2]
   ·rw [take_snoc he, s1]
    have hset : (carryL 0 (zs.take i) ++ zs.drop i).set i ((e.tmod 100000000 + o).tmod 100000000) = carryL 0 (zs.take i) ++ [(e.tmod 100000000 + o).tmod 100000000] ++ zs.drop (i + 1) := by
     rw [List.set_append_right _ _ (by omega), hcl, Nat.sub_self, drop_of_get he]
     simp
    rw [← hset]
    exact hU.trans (upd_set hOw.lt (by rw [hU.n]; exact hn))
  ·have : i = l := by omega
   subst this
   subst ho
   exact ⟨rfl, hU⟩
end Go.PI

open Go.Proofs
namespace Go.PI
open IM
theorem fn184 : ctx.fn 184 = some c184 := by kernel_rfl
theorem fn125 : ctx.fn 125 = some c125 := by kernel_rfl
theorem fn185 : ctx.fn 185 = some c185 := by kernel_rfl
theorem trim_is {xs : List Int} {n : Nat} (hn : n <= xs.length) (hz : ∀ j, n <= j -> j < xs.length -> xs[j]? = some 0) (ht : n = 0 ∨ ∃ x, xs[n - 1]? = some x /\ x ≠ 0) : trimL xs = xs.take n := by
 have h1 : xs = xs.take n ++ List.replicate (xs.length - n) 0 := by
  apply List.ext_getElem?
  intro j
  by_cases hj : j < n
  ·rw [List.getElem?_append_left (by simp; omega), List.getElem?_take, if_pos hj]
  ·rw [List.getElem?_append_right (by simp; omega)]
   by_cases hl : j < xs.length
   ·rw [hz j (by omega) hl, List.getElem?_replicate, List.length_take, if_pos (by omega)]
   ·rw [List.getElem?_eq_none (by omega), List.getElem?_eq_none (by simp; omega)]
 conv => lhs; rw [h1, trim_zeros]
 apply trim_of_top
 rcases ht with rfl | ⟨x, hx, hx0⟩
 ·exact .inl (by simp)
 ·by_cases h0 : n = 0
  ·subst h0; exact .inl (by simp)
  ·exact .inr ⟨xs.take (n - 1), x, by rw [← take_snoc hx]; congr 1; omega, hx0⟩
theorem Ow.cut {H : Heap} {v : AV} {b : Nat} {zs : List Int} {l : Nat} (h : Ow H v b zs l) {C : Ctx} (hT : C.ty = tget) {ρ : Operand -> Option AV} {x y : Operand} {k : Nat} (hx : ρ x = some v) (hy : ρ y = some (iv k)) (hk : k <= l) :
  ∃ r, pureE C ρ (.slice 22 x none (some y) none) = some r /\ Ow H r b zs k := by
 obtain ⟨h1, h2, ⟨c, rfl, h3, h4⟩ | rfl⟩ := h
 ·refine ⟨.sl b 0 k c, ?_, h1, by omega, .inl ⟨c, rfl, by omega, h4⟩⟩
  have : (0 : Int) <= (k : Int) /\ (k : Int) <= (c : Int) := by omega
  simp only [pureE, hx, hy, ty22 hT, t22, ty3 hT, bound, this]
  simp [t3]
 ·have : (0 : Int) <= (k : Int) /\ (k : Int) <= (l : Int) := by omega
  refine ⟨.slu b 0 k 1, ?_, h1, by omega, .inr rfl⟩
  simp only [pureE, hx, hy, ty22 hT, t22, ty3 hT, bound, this]
  by_cases hl : 0 < l
  ·simp [t3, hl]
  ·simp [t3, hl]
set_option maxRecDepth 10000
set_option maxHeartbeats 1000000
variable (S : FuncId -> Option (List AV -> Heap -> Option (AV × Heap)))
theorem trim_run (hS : S 184 = none) {H : Heap} {v : AV} {b : Nat} {zs : List Int} {l : Nat} (hlb : l <= 1073741824) (h : Ow H v b zs l) :
  Cl (ctx.plus S) 184 [v] H fun r H' => H = H' /\ Ow H r b zs (trimL (zs.take l)).length := by
 refine cl_of hS fn184 ?_
 have hT : (ctx.plus S).ty = tget := rfl
 have hlz := h.2.1
 have hlen : (zs.take l).length = l := by simp; omega
 refine ⟨_, len_sl hT (v := v) rfl h.sl, ?_⟩
 rw [hlen]
 refine ⟨fun m s => ∃ (i : Nat) (n : Int) (j1 j2 j4 j5 j6 j7 j8 j9 j10 j11 j12 j13 j14 j15 j16 j17 j18 j19 j20 : AV),
  s = ⟨[v, j1, j2, iv n, j4, j5, j6, j7, j8, j9, j10, j11, j12, j13, j14, j15, j16, j17, j18, j19, j20], H, []⟩ /\ m = i /\ n = i /\ i <= l /\ (∀ j, i <= j -> j < l -> zs[j]? = some 0), ⟨l, ?_⟩, ?_⟩
 ·exact ⟨l, l, _, _, _, _, _, _, _, _, _, _, _, _, _, _, _, _, _, _, _, rfl, rfl, rfl, Nat.le_refl _, fun j h1 h2 => by omega⟩
 ·rintro m s ⟨i, n, j1, j2, j4, j5, j6, j7, j8, j9, j10, j11, j12, j13, j14, j15, j16, j17, j18, j19, j20, rfl, hm, rfl, hi, hz⟩
  have fin : (i = 0 ∨ ∃ x, zs[i - 1]? = some x /\ x ≠ 0) -> (trimL (zs.take l)).length = i := fun ht => by
   rw [trim_is (n := i) (by omega) (fun j h1 h2 => by rw [List.getElem?_take, if_pos (by omega)]; exact hz j h1 (by omega))]
   ·simp; omega
   ·rcases ht with h0 | ⟨x, hx, hx0⟩
    ·exact .inl h0
    ·by_cases h0 : i = 0
     ·exact .inl h0
     ·exact .inr ⟨x, by rw [List.getElem?_take, if_pos (by omega)]; exact hx, hx0⟩
  refine ⟨fun hgt => ?_, fun hle => ?_⟩
  ·obtain ⟨e, he⟩ : ∃ e, zs[i - 1]? = some e := ⟨zs[i - 1]'(by omega), List.getElem?_eq_getElem _⟩
   refine ⟨⟨by omega, by omega⟩, ?_⟩
   refine ⟨_, idx_sl hT (v := v) (n := (i : Int) - 1) (k := i - 1) rfl rfl h.sl (by omega) (by omega), ?_⟩
   refine ⟨_, load_sl hT h.sl (x := e) (by rw [List.getElem?_take, if_pos (by omega)]; exact he), ?_⟩
   refine ⟨fun h0 => ?_, fun h0 => ?_⟩
   ·refine ⟨⟨by omega, by omega⟩, ?_⟩
    refine ⟨i - 1, by omega, i - 1, _, _, _, _, _, _, _, _, _, _, _, _, _, _, _, _, _, _, _, _, rfl, rfl, by omega, by omega, fun j h1 h2 => ?_⟩
    by_cases hj : j = i - 1
    ·subst hj; rw [he, h0]
    ·exact hz j (by omega) h2
   ·obtain ⟨r, hr1, hr2⟩ := h.cut hT (ρ := fun o => match o with | .tmp 18 => some v | _ => some (iv i)) (x := .tmp 18) (y := .tmp 19) (k := i) rfl rfl hi
    refine ⟨r, hr1, ?_⟩
    refine ⟨rfl, ?_⟩
    rw [fin (.inr ⟨e, he, h0⟩)]
    exact hr2
  ·obtain ⟨r, hr1, hr2⟩ := h.cut hT (ρ := fun o => match o with | .tmp 18 => some v | _ => some (iv i)) (x := .tmp 18) (y := .tmp 19) (k := i) rfl rfl hi
   refine ⟨r, hr1, ?_⟩
   refine ⟨rfl, ?_⟩
   rw [fin (.inl (by omega))]
   exact hr2
def sgnL (xs : List Int) : Int :=
 match xs.getLast? with
 | some t => if t < 0 then -1 else 1
 | none => 0
theorem sign_run (hS : S 125 = none) {H : Heap} {v : AV} {xs : List Int} (hlb : xs.length <= 1073741824) (h : Sl H v xs) :
  Cl (ctx.plus S) 125 [v] H fun r H' => r = iv (sgnL xs) /\ H = H' := by
 refine cl_of hS fn125 ?_
 have hT : (ctx.plus S).ty = tget := rfl
 refine ⟨_, len_sl hT (v := v) rfl h, ?_⟩
 refine ⟨fun h0 => ?_, fun h0 => ?_⟩
 ·have : xs = [] := List.eq_nil_of_length_eq_zero (by omega)
  subst this
  exact ⟨rfl, rfl⟩
 ·obtain ⟨e, he⟩ : ∃ e, xs[xs.length - 1]? = some e := ⟨xs[xs.length - 1]'(by omega), List.getElem?_eq_getElem _⟩
  have hs : sgnL xs = if e < 0 then -1 else 1 := by
   unfold sgnL
   rw [List.getLast?_eq_getElem?, he]
  refine ⟨_, len_sl hT (v := v) rfl h, ?_⟩
  refine ⟨⟨by omega, by omega⟩, ?_⟩
  refine ⟨_, idx_sl hT (v := v) (n := (xs.length : Int) - 1) (k := xs.length - 1) rfl rfl h (by omega) (by omega), ?_⟩
  refine ⟨_, load_sl hT h he, ?_⟩
  refine ⟨fun hn => ?_, fun hn => ?_⟩
  ·exact ⟨by rw [hs, if_pos hn], rfl⟩
  ·exact ⟨by rw [hs, if_neg (by omega)], rfl⟩
end Go.PI

