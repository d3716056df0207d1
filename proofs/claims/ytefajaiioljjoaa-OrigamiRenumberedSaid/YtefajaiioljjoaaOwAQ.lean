/- Own work of the verifier: PvRun. -/
import Derived.Test.YtefajaiioljjoaaOwAP
set_option linter.all false
set_option exponentiation.threshold 3000
set_option linter.deprecated false
/- PLAIN VALUES: regions, code, calls. -/
namespace Go.PI
def pyielded (ops : List Oper) (T : List PV) (j : Nat) : Option Bool :=
  match ops[j]? with
  | some o => match o.dst with
    | some d => match T[d]? with
      | some (.bool b) => some b
      | _ => none
    | none => none
  | none => none
theorem yielded_rel {H : Heap} {W : Nat → Prop} {β : List Nat} {T : List PV} {T' : List AV} (h : All2 (RelV H W β) T T') (ops : List Oper) : ayielded ops T' = pyielded ops T := by
  funext j
  unfold ayielded pyielded
  cases ops[j]? with
  | none => rfl
  | some o =>
    simp only
    cases o.dst with
    | none => rfl
    | some d =>
      simp only
      cases e : T[d]? with
      | none => rw [h.get_none e]
      | some p =>
        obtain ⟨a, h1, h2⟩ := h.get e
        rw [h1]
        cases p with
        | bool b => rw [h2.bool_inv]
        | _ =>
          cases h2 with
          | clo h2 => cases h2 <;> rfl
          | _ => rfl
def isDst (ops : List Oper) (y : Tmp) : Bool := ops.any fun o => match o.dst with
  | some d => Nat.beq d y
  | none => false
def baseOf : Op → Option Tmp
  | .fieldAddr _ (.tmp y) _ => some y
  | .nilCheck (.tmp y) => some y
  | .move (.tmp y) => some y
  | .assign (.tmp y) => some y
  | .indexAddr _ (.tmp y) _ => some y
  | _ => none
def usesOf : Op → Option Tmp
  | .load _ (.tmp y) => some y
  | op => baseOf op
def appArg : Op → Option Tmp
  | .call { callee := .builtin .append, args, .. } => (match args.toList with
    | .tmp a :: _ => some a
    | _ => none)
  | _ => none
def apC (T : List PV) (j : Nat) : List Tmp → Prop
  | [] => True
  | y :: ys => (match T.getD y undefP with
    | .optr i _ => i ≠ j
    | _ => True) ∧ apC T j ys
def apW (T : List PV) (ys : List Tmp) : PV → Prop
  | .nils => True
  | .own j _ _ _ _ => apC T j ys
  | .ownu j _ _ => apC T j ys
  | .ownq j _ _ _ => apC T j ys
  | .optr j _ => apC T j ys
  | _ => False
def actTgt : Op → Option Tmp
  | .store _ (.tmp y) _ => some y
  | op => appArg op
def hasApp (ops : List Oper) : Bool := ops.any fun o => (appArg o.op).isSome
def basePtrs (ops : List Oper) : List Tmp := (ops.filterMap fun o => usesOf o.op).filter fun y => !isDst ops y
def wG (O : Opn) (C : Ctx) (c : Nat) (dr : Bool) (ops : List Oper) (o : Oper) (T : List PV) (σ : List StB) (k : Nat) (K : List PV → List StB → Nat → Prop) : Prop :=
  match Region.wanted o (pyielded ops T) with
  | true => (match dr with
    | false => wOp O C c dr T σ k o.op fun v σ' k' => pputK T o.dst v fun T' => K T' σ' k'
    | true => (match (if O.a && hasApp ops then actTgt o.op else none) with
      | none => wOp O C c dr T σ k o.op fun v σ' k' => pputK T o.dst v fun T' => K T' σ' k'
      | some a => apW T (basePtrs ops) (T.getD a undefP) ∧ wOp O C c dr T σ k o.op fun v σ' k' => pputK T o.dst v fun T' => K T' σ' k'))
  | false => pputK T o.dst undefP fun T' => K T' σ k
theorem wG_wop {O : Opn} {C : Ctx} {c : Nat} {dr : Bool} {ops : List Oper} {o : Oper} {T : List PV} {σ : List StB} {k : Nat} {K : List PV → List StB → Nat → Prop} (h : wG O C c dr ops o T σ k K) (hw : Region.wanted o (pyielded ops T) = true) :
    (wOp O C c dr T σ k o.op fun v σ' k' => pputK T o.dst v fun T' => K T' σ' k') ∧ (dr = true → (O.a && hasApp ops) = true → ∀ a, actTgt o.op = some a → apW T (basePtrs ops) (T.getD a undefP)) := by
  unfold wG at h
  rw [hw] at h
  cases dr with
  | false => exact ⟨h, fun e => by cases e⟩
  | true =>
    simp only at h
    split at h
    · rename_i ha
      exact ⟨h, fun _ hp a e => by rw [if_pos hp, e] at ha; cases ha⟩
    · rename_i b ha
      exact ⟨h.2, fun _ hp a e => by rw [if_pos hp, e] at ha; cases ha; exact h.1⟩
def wOps (O : Opn) (C : Ctx) (c : Nat) (dr : Bool) (ops : List Oper) : List Oper → List PV → List StB → Nat → (List PV → List StB → Nat → Prop) → Prop
  | [], T, σ, k, Q => Q T σ k
  | o :: rest, T, σ, k, Q => wG O C c dr ops o T σ k fun T' σ' k' => wOps O C c dr ops rest T' σ' k' Q
section
variable {O : Opn} {C : Ctx} {H0 : Heap} {W0 : Nat → Prop} {c : Nat}
theorem put_rel {H : Heap} {W : Nat → Prop} {β : List Nat} {T : List PV} {T' : List AV} (h : All2 (RelV H W β) T T') {d : Option Tmp} {p : PV} {v : AV} (r : RelV H W β p v) : All2 (RelV H W β) (pputT T d p) (putT T' d v) := by
  cases d with
  | none => exact h
  | some d => exact h.set r d
theorem TR_of {H : Heap} {W : Nat → Prop} {β : List Nat} {T : List PV} {T' : List AV} (h : All2 (RelV H W β) T T') (x : Operand) : TR H W β T T' x := by
  cases x with
  | tmp t =>
    show RelV H W β (T.getD t undefP) (T'.getD t undefA)
    cases e : T[t]? with
    | none =>
      have := h.get_none e
      simp only [List.getD, e, this, Option.getD_none]
      exact undef_rel
    | some p =>
      obtain ⟨a, h1, h2⟩ := h.get e
      simp only [List.getD, e, h1, Option.getD_some]
      exact h2
  | _ => trivial
def EndR (H0 : Heap) (W0 : Nat → Prop) (c : Nat) (W : Nat → Prop) (β : List Nat) (H : Heap) (Q : List PV → List StB → Nat → Prop) (T2' : List AV) (H2 : Heap) : Prop :=
  ∃ T2 σ2 k2 W2 β2, Ext W β H W2 β2 H2 ∧ Sto H0 W0 c σ2 k2 W2 β2 H2 ∧ All2 (RelV H2 W2 β2) T2 T2' ∧ Q T2 σ2 k2
theorem wOps_ok {dr : Bool} {ops : List Oper} : ∀ {rest : List Oper} {T : List PV} {σ : List StB} {k : Nat} {Q : List PV → List StB → Nat → Prop} {W : Nat → Prop} {β : List Nat} {H : Heap} {T' : List AV},
    wOps O C c dr ops rest T σ k Q → Sto H0 W0 c σ k W β H → All2 (RelV H W β) T T' → ∃ n T2 H2, runE C (ev C n) ops rest T' H = some (T2, H2) ∧ EndR H0 W0 c W β H Q T2 H2
  | [], T, σ, k, Q, W, β, H, T', h, I, hr => ⟨0, T', H, rfl, T, σ, k, W, β, Ext.refl _ _ _, I, hr, h⟩
  | o :: rest, T, σ, k, Q, W, β, H, T', h, I, hr => by
    have h : wG O C c dr ops o T σ k fun T' σ' k' => wOps O C c dr ops rest T' σ' k' Q := h
    cases hw : Region.wanted o (pyielded ops T) with
    | true =>
      have h := (wG_wop h hw).1
      obtain ⟨n, v, H1, h1, r, σ1, k1, W1, β1, E1, I1, hv, hK, -⟩ := op_ok dr h I fun x _ => TR_of hr x
      have hK := pputK_ok hK
      obtain ⟨m, T2, H2, h2, T3, σ2, k2, W2, β2, E2, I2, h3, h4⟩ := wOps_ok hK I1 (put_rel (RelVs.ext E1 hr) hv)
      refine ⟨max n m, T2, H2, ?_, T3, σ2, k2, W2, β2, E1.trans E2, I2, h3, h4⟩
      have hs : stepE C (ev C n) ops o T' H = some (putT T' o.dst v, H1) := by
        unfold stepE
        rw [yielded_rel hr, if_pos hw, h1]
      unfold runE
      rw [stepE_mono (ev_mono (Nat.le_max_left n m)) hs]
      exact runE_mono (ev_mono (Nat.le_max_right n m)) h2
    | false =>
      unfold wG at h
      rw [hw] at h
      have hK := pputK_ok h
      obtain ⟨m, T2, H2, h2, T3, σ2, k2, W2, β2, E2, I2, h3, h4⟩ := wOps_ok hK I (put_rel hr undef_rel)
      refine ⟨m, T2, H2, ?_, T3, σ2, k2, W2, β2, E2, I2, h3, h4⟩
      unfold runE stepE
      rw [yielded_rel hr, if_neg (by rw [hw]; decide)]
      exact h2
def isBuild : Op → Bool
  | .build _ _ => true
  | _ => false
def freshIn (C : Ctx) (D : List Tmp) (o : Oper) : Bool :=
  match kindOf C o.op with
  | .eff => true
  | .alloc => true
  | .look => true
  | _ => isBuild o.op || o.op.operands.toList.any fun x => match x with
    | .tmp t => D.contains t
    | _ => false
def depStep (C : Ctx) (D : List Tmp) (o : Oper) : List Tmp :=
  match o.dst with
  | some d => match freshIn C D o with
    | true => d :: D
    | false => D.filter fun x => !Nat.beq x d
  | none => D
def ldFree (C : Ctx) : List Oper → List Tmp → Bool
  | [], _ => true
  | o :: os, D => (!isLoad o || !freshIn C D o) && ldFree C os (depStep C D o)
def cOf : List Oper → Nat
  | [] => 0
  | o :: os => match quietOp o.op with
    | true => cOf os + 1
    | false => 0
def alBq (C : Ctx) (ops : List Oper) (pre : List Nat) (i cc : Nat) : Nat → Nat → Bool
  | _, 0 => true
  | p, n + 1 => (!(isBd C ops p && decide (i < p) && mayAt C ops pre i p ops 0) || Nat.ble p cc) && alBq C ops pre i cc (p + 1) n
def zeroSm (C : Ctx) : Op → Bool
  | .alloc e => match C.ty e with
    | some i => sameLs i.zero.cells i.zero.cells
    | none => false
  | .makeSlice t _ _ => match C.ty t with
    | some { desc := .slice e, .. } => (match C.ty e with
      | some i => sameLs i.zero.cells i.zero.cells
      | none => false)
    | _ => false
  | _ => false
def alQt (C : Ctx) (ops : List Oper) (pre : List Nat) (cc : Nat) : List Oper → Nat → Bool
  | [], _ => true
  | o :: os, i => (match kindOf C o.op with | .alloc => alBd C ops pre i 0 (ops.length + 1) || (zeroSm C o.op && alBq C ops pre i cc 0 (ops.length + 1)) | _ => true) && alQt C ops pre cc os (i + 1)
def qtP (cc : Nat) : List (List AV × Heap) → Nat → Prop
  | (_, H) :: (T', H') :: r, i => (i + 1 ≤ cc → ∀ A, A < H.n → H'.get A = H.get A) ∧ qtP cc ((T', H') :: r) (i + 1)
  | _, _ => True
def hdP (P : Heap → Prop) : List (List AV × Heap) → Prop
  | (_, H) :: _ => P H
  | [] => True
def alsQ (C : Ctx) (ops : List Oper) : List Oper → List (List AV × Heap) → Prop
  | o :: os, (T, H) :: tr => (match kindOf C o.op with
    | .alloc => (match Region.wanted o (ayielded ops T) with
      | true => ∃ ty cs f, allocE C (opd T) o.op = some (.cells true ty cs, f) ∧ (zeroSm C o.op = true → sameLs cs cs = true) ∧ hdP (fun H' => H.n < H'.n ∧ H'.get H.n = .cells true ty cs) tr
      | false => True)
    | _ => True) ∧ alsQ C ops os tr
  | _, _ => True
theorem sameLs_app : ∀ {a b : List AV}, sameLs a a = true → sameLs b b = true → sameLs (a ++ b) (a ++ b) = true
  | [], _, _, h => h
  | x :: a, b, h1, h2 => by
    simp only [sameLs, Bool.and_eq_true, List.cons_append] at h1 ⊢
    exact ⟨h1.1, sameLs_app h1.2 h2⟩
theorem sameLs_rep {z : List AV} (h : sameLs z z = true) : ∀ n, sameLs (List.replicate n z).flatten (List.replicate n z).flatten = true
  | 0 => rfl
  | n + 1 => by rw [List.replicate_succ, List.flatten_cons]; exact sameLs_app h (sameLs_rep h n)
theorem zero_same {C : Ctx} {ρ : Operand → Option AV} {op : Op} {ty : TypeId} {cs : List AV} {f : Nat → AV} (h : allocE C ρ op = some (.cells true ty cs, f)) (hz : zeroSm C op = true) : sameLs cs cs = true := by
  unfold zeroSm at hz
  split at hz
  · unfold allocE at h
    split at hz
    · rename_i i hi
      simp only [hi] at h
      cases h
      exact hz
    · cases hz
  · unfold allocE at h
    split at hz
    · rename_i t l cp e _ _ _ ht
      split at hz
      · rename_i i hi
        simp only [ht] at h
        split at h
        · rename_i h1 _ _
          cases h1
          simp only [hi, Option.ite_none_right_eq_some] at h
          obtain ⟨-, h⟩ := h
          cases h
          exact sameLs_rep hz _
        · cases h
      · cases hz
    · cases hz
  · cases hz
theorem ch_keep {cc A : Nat} {b : Blk} : ∀ {tr : List (List AV × Heap)} {i : Nat}, qtP cc tr i → mnP tr → hdP (fun H => A < H.n ∧ H.get A = b) tr → ∀ q x, tr[q]? = some x → i + q ≤ cc → x.2.get A = b
  | [], _, _, _, _, q, x, h, _ => by simp at h
  | (T, H) :: tr, i, hc, hm, hh, 0, x, h, _ => by
    simp at h
    subst h
    exact hh.2
  | (T, H) :: [], i, hc, hm, hh, q + 1, x, h, _ => by simp at h
  | (T, H) :: (T', H') :: tr, i, hc, hm, hh, q + 1, x, h, hq => by
    obtain ⟨h1, h2⟩ := hh
    have h3 := hc.1 (by omega) A h1
    have h4 : H.n ≤ H'.n := hm.1
    exact ch_keep hc.2 hm.2 (show A < H'.n ∧ H'.get A = b from ⟨by omega, by rw [h3]; exact h2⟩) q x (by simpa using h) (by omega)
theorem allocAts_q {C : Ctx} {ops : List Oper} {pre : List Nat} {i A cc : Nat} {ty : TypeId} {cs : List AV} (hs : sameLs cs cs = true) : ∀ (tr : List (List AV × Heap)) (p n : Nat), (∀ q x, tr[q]? = some x → i < p + q → p + q ≤ cc → x.2.get A = .cells true ty cs) → alBq C ops pre i cc p n = true → tr.length ≤ n → allocAts C ops pre i A ty cs tr p = true
  | [], _, _, _, _, _ => rfl
  | (T, H) :: r, p, 0, _, _, hl => by simp at hl
  | (T, H) :: r, p, n + 1, hk, h, hl => by
    simp only [alBq, Bool.and_eq_true] at h
    simp only [allocAts]
    rw [allocAts_q hs r (p + 1) n (fun q x h1 h2 h3 => hk (q + 1) x (by simpa using h1) (by omega) (by omega)) h.2 (by simpa using hl), Bool.and_true]
    by_cases hip : i < p
    · cases hb : Nat.ble p cc with
      | true =>
        have h1 : H.get A = .cells true ty cs := hk 0 (T, H) rfl (by omega) (Nat.le_of_ble_eq_true hb)
        rw [h1]
        simp [hs]
      | false =>
        have h1 := h.1
        rw [hb, Bool.or_false] at h1
        rw [h1, Bool.true_or]
    · simp [hip]
theorem allocs_q {C : Ctx} {ops : List Oper} {pre : List Nat} {cc : Nat} {all : List (List AV × Heap)} (hlen : all.length = ops.length + 1) : ∀ (os : List Oper) (tr : List (List AV × Heap)) (i : Nat), (∀ q, tr[q]? = all[i + q]?) → alQt C ops pre cc os i = true → alsQ C ops os tr → qtP cc tr i → mnP tr → allocsOk C ops pre all os tr i = true
  | [], tr, _, _, _, _, _, _ => by cases tr <;> rfl
  | o :: os, [], _, _, _, _, _, _ => rfl
  | o :: os, (T, H) :: tr, i, hall, h, ha, hc, hm => by
    simp only [alQt, Bool.and_eq_true] at h
    simp only [allocsOk]
    have hc2 : qtP cc tr (i + 1) := by
      cases tr with
      | nil => trivial
      | cons x r => exact hc.2
    have hm2 : mnP tr := by
      cases tr with
      | nil => trivial
      | cons x r => exact hm.2
    rw [allocs_q hlen os tr (i + 1) (fun q => by have := hall (q + 1); simp at this; rw [this]; congr 1; omega) h.2 ha.2 hc2 hm2, Bool.and_true]
    have h1 := h.1
    have h2 := ha.1
    cases hk : kindOf C o.op <;> simp only [hk] at h1 h2 ⊢
    cases hw : Region.wanted o (ayielded ops T) with
    | false => simp
    | true =>
      simp only [hw] at h2
      obtain ⟨ty, cs, f, he, hz, hd⟩ := h2
      simp only [if_true, he]
      rw [Bool.or_eq_true] at h1
      rcases h1 with h1 | h1
      · exact allocAts_of4 all 0 _ h1 (by omega)
      · rw [Bool.and_eq_true] at h1
        refine allocAts_q (hz h1.1) all 0 _ (fun q x hx h3 h4 => ?_) h1.2 (by omega)
        have h5 := hall (q - i)
        rw [show i + (q - i) = q by omega, hx] at h5
        rw [show q - i = (q - i - 1) + 1 by omega] at h5
        exact ch_keep hc2 hm2 hd (q - i - 1) x (by simpa using h5) (by omega)
def growS5 (C : Ctx) (ops : List Oper) : Bool := orderOk C ops (preList ops []) ops 0 && lastOk2 C ops (preList ops []) (cOf ops) ops.length ops 0 && alQt C ops (preList ops []) (cOf ops) ops 0 && ldFree C ops []
theorem cOf_le : ∀ ops : List Oper, cOf ops ≤ ops.length
  | [] => Nat.le_refl _
  | o :: os => by
    have := cOf_le os
    unfold cOf
    split <;> simp <;> omega
theorem alloc_is {ρ : Operand → Option AV} {op : Op} {b : Blk} {f : Nat → AV} (h : allocE C ρ op = some (b, f)) : ∃ ty cs, b = .cells true ty cs := by
  unfold allocE at h
  split at h
  · split at h
    · cases h; exact ⟨_, _, rfl⟩
    · cases h
  · split at h
    · cases h; exact ⟨_, _, rfl⟩
    · cases h
  · split at h
    · split at h
      · split at h
        · cases h
        · split at h
          · cases h; exact ⟨_, _, rfl⟩
          · cases h
      · cases h
    · cases h
  · split at h
    · split at h
      · split at h
        · cases h; exact ⟨_, _, rfl⟩
        · cases h
      · cases h
    · cases h
  · cases h
theorem free_ok {T : List PV} {T' : List AV} {o : Oper} {K : PV → List StB → Nat → Prop} {σ : List StB} {k : Nat} {W : Nat → Prop} {β : List Nat} {H : Heap} (h : wOp O C c true T σ k o.op K) (I : Sto H0 W0 c σ k W β H) (hr : All2 (RelV H W β) T T') {D : List Tmp} (hD : freshIn C D o = false)
    {σs : List StB} {ks : Nat} {Ws : Nat → Prop} {βs : List Nat} {Hs : Heap} (Is : Sto H0 W0 c σs ks Ws βs Hs) (hq : Quiet σs Hs σ H) (hg : ∀ t, t ∉ D → RelV Hs Ws βs (T.getD t undefP) (T'.getD t undefA)) :
    ∃ v r, execE C (ev C 0) T' o H = some (v, H) ∧ RelV H W β r v ∧ K r σ k ∧ RelV Hs Ws βs r v ∧
      (∀ t x, o.op = .load t x → ∃ b off, opd T' x = some (.ptr b off) ∧ b < Hs.n ∧ loadE C t (.ptr b off) Hs = some v ∧ v.same v = true) := by
  obtain ⟨dst, op, ty, pos, after, guard⟩ := o
  simp only at h
  have hx : kindOf C op ≠ .eff ∧ kindOf C op ≠ .alloc ∧ isBuild op = false ∧ ∀ x ∈ op.operands.toList, TR Hs Ws βs T T' x := by
    unfold freshIn at hD
    simp only at hD
    split at hD
    · cases hD
    · cases hD
    · cases hD
    · rename_i h1 h2 h3'
      rw [Bool.or_eq_false_iff] at hD
      refine ⟨h1, h2, hD.1, fun x hx => ?_⟩
      cases x with
      | tmp t =>
        have h3 := List.any_eq_false.1 hD.2 _ hx
        simp only [Bool.not_eq_true] at h3
        exact hg t (by simpa using h3)
      | _ => trivial
  have hlk : kindOf C op ≠ .look := fun e => by
    unfold freshIn at hD
    simp only [e] at hD
    cases hD
  obtain ⟨he, ha, hb, hrs⟩ := hx
  unfold wOp at h
  split at h
  · rename_i t a
    obtain ⟨p, h1, v, h2, h3, h4⟩ := popdK_ok h
    obtain ⟨a', g1, g2⟩ := pOp_rel h1 (TR_of hr a)
    obtain ⟨a2, g1', g2'⟩ := pOp_rel h1 (hrs a (by simp [Op.operands]))
    rw [g1] at g1'
    cases g1'
    obtain ⟨b, o, u, rfl, hbn, g3, g4⟩ := load_ok I h2 g2
    have h2s : ploadE C σs t p = some v := by
      unfold ploadE at h2 ⊢
      split at h2
      · rename_i i hi
        split at h2
        · rename_i j o'
          obtain ⟨b', hb', -⟩ := g2'.optr_inv
          have hj : j < σs.length := by
            have := (List.getElem?_eq_some_iff.1 hb').1
            have := Is.len
            omega
          simp only [← hq.2.2.1 j hj, ← hq.2.2.2 j hj]
          exact h2
        · exact h2
        · exact h2
        · cases h2
      · cases h2
    obtain ⟨b2, o2, u2, e2, hbn2, g5, g6⟩ := load_ok Is h2s g2'
    cases e2
    have hget := hq.1 b hbn2
    have hsame : loadE C t (.ptr b o) Hs = some u := by rw [← load_get hget]; exact g3
    rw [hsame] at g5
    cases g5
    refine ⟨u, v, ?_, g4, h4, g6, fun t' x' ht => ?_⟩
    · simp only [execE, kindOf, g1, g3]
    · cases ht
      exact ⟨b, o, g1, hbn2, hsame, g6.same h3⟩
  · exact absurd rfl he
  · cases hb
  · exact absurd rfl ha
  · exact absurd rfl ha
  · exact absurd rfl ha
  · exact absurd rfl ha
  · exact absurd rfl he
  · exact absurd rfl hlk
  · exact absurd rfl he
  · exact absurd rfl he
  · split at h
    · exact h.elim
    · obtain ⟨hkd, r, h1, h2⟩ := pur_ok h
      obtain ⟨v, g1, g2⟩ := h2 H W β T' fun x _ => TR_of hr x
      obtain ⟨v', g3, g4⟩ := h2 Hs Ws βs T' hrs
      rw [g1] at g3
      cases g3
      refine ⟨v, r, ?_, g2, h1, g4, fun t x ht => by cases ht⟩
      simp only [execE, hkd, g1]
  · exact absurd rfl he
  · exact absurd rfl he
  · exact absurd rfl he
  · rename_i hnl _ _ _ _ _ _ _ _ _ _ _ _ _ _
    obtain ⟨hkd, r, h1, h2⟩ := pur_ok h
    obtain ⟨v, g1, g2⟩ := h2 H W β T' fun x _ => TR_of hr x
    obtain ⟨v', g3, g4⟩ := h2 Hs Ws βs T' hrs
    rw [g1] at g3
    cases g3
    refine ⟨v, r, ?_, g2, h1, g4, fun t x ht => ?_⟩
    · simp only [execE, hkd, g1]
    · exact absurd ht (hnl t x)
theorem wTr_ok {ops : List Oper} {m cc : Nat} {σs : List StB} {ks : Nat} {Ws : Nat → Prop} {βs : List Nat} {Hs : Heap} (Is : Sto H0 W0 c σs ks Ws βs Hs) :
    ∀ {rest : List Oper} {i : Nat} {D : List Tmp} {T : List PV} {σ : List StB} {k : Nat} {Q : List PV → List StB → Nat → Prop} {W : Nat → Prop} {β : List Nat} {H : Heap} {T' : List AV},
    wOps O C c true ops rest T σ k Q → Sto H0 W0 c σ k W β H → All2 (RelV H W β) T T' → Hs.n ≤ H.n →
    ldFree C rest D = true → lastOk2 C ops (preList ops []) cc m rest i = true → (i ≤ cc → cOf rest + i = cc) →
    (i ≤ cc → Quiet σs Hs σ H ∧ ∀ t, t ∉ D → RelV Hs Ws βs (T.getD t undefP) (T'.getD t undefA)) →
    ∃ n tl T2 H2, traceE C (ev C n) ops rest T' H = some ((T', H) :: tl) ∧ lastOf ((T', H) :: tl) = some (T2, H2) ∧ tl.length = rest.length ∧ ldsP C ops Hs rest ((T', H) :: tl) ∧ grC Hs cc ((T', H) :: tl) i ∧
      alsQ C ops rest ((T', H) :: tl) ∧ mnP ((T', H) :: tl) ∧ qtP cc ((T', H) :: tl) i ∧ EndR H0 W0 c W β H Q T2 H2
  | [], i, D, T, σ, k, Q, W, β, H, T', h, I, hr, hn, hl, hlo, hc, hq => by
    refine ⟨0, [], T', H, rfl, rfl, rfl, trivial, ⟨?_, trivial⟩, trivial, trivial, trivial, T, σ, k, W, β, Ext.refl _ _ _, I, hr, h⟩
    cases hb : Nat.ble i cc with
    | true => exact (hq (Nat.le_of_ble_eq_true hb)).1.1
    | false => trivial
  | o :: rest, i, D, T, σ, k, Q, W, β, H, T', h, I, hr, hn, hl, hlo, hc, hq => by
    have h : wG O C c true ops o T σ k fun T' σ' k' => wOps O C c true ops rest T' σ' k' Q := h
    simp only [ldFree, Bool.and_eq_true, Bool.or_eq_true, Bool.not_eq_true'] at hl
    simp only [lastOk2, Bool.and_eq_true, Bool.or_eq_true, Bool.not_eq_true'] at hlo
    have hgr : (match Nat.ble i cc with
        | true => ∀ A, A < Hs.n → H.get A = Hs.get A
        | false => True) := by
      cases hb : Nat.ble i cc with
      | true => exact (hq (Nat.le_of_ble_eq_true hb)).1.1
      | false => trivial
    have hcq : i + 1 ≤ cc → quietOp o.op = true ∧ cOf rest + (i + 1) = cc := fun hi => by
      have h1 := hc (by omega)
      unfold cOf at h1
      cases hx : quietOp o.op with
      | true => rw [hx] at h1; exact ⟨rfl, by simp at h1; omega⟩
      | false => rw [hx] at h1; simp at h1; omega
    cases hw : Region.wanted o (pyielded ops T) with
    | false =>
      unfold wG at h
      rw [hw] at h
      have hK := pputK_ok h
      have hn0 : i + 1 ≤ cc → Quiet σs Hs σ H ∧ ∀ t, t ∉ depStep C D o → RelV Hs Ws βs ((pputT T o.dst undefP).getD t undefP) ((putT T' o.dst undefA).getD t undefA) := fun hi => by
        obtain ⟨q1, q2⟩ := hq (by omega)
        refine ⟨q1, fun t ht => ?_⟩
        cases hd : o.dst with
        | none =>
          unfold depStep at ht
          rw [hd] at ht
          exact q2 t ht
        | some d =>
          by_cases htd : t = d
          · subst htd
            have hlen := hr.length
            simp only [pputT, putT, List.getD, List.getElem?_set, if_true]
            by_cases hlt : t < T.length
            · rw [if_pos hlt, if_pos (show t < T'.length by rw [← hlen]; exact hlt)]
              exact undef_rel
            · rw [if_neg hlt, if_neg (show ¬ t < T'.length by rw [← hlen]; exact hlt)]
              exact undef_rel
          · have : t ∉ D := fun hm => ht (by
              unfold depStep
              rw [hd]
              simp only
              split
              · exact List.mem_cons_of_mem _ hm
              · refine List.mem_filter.2 ⟨hm, ?_⟩
                have : Nat.beq t d = false := by
                  rw [Bool.eq_false_iff]; exact fun e => htd (Nat.eq_of_beq_eq_true e)
                simp [this])
            have := q2 t this
            simp only [pputT, putT, List.getD, List.getElem?_set_ne (Ne.symm htd)]
            exact this
      obtain ⟨n, tl, T2, H2, h1, h2, h3, h4, h5, h6, h7, h7c, h8⟩ := wTr_ok Is hK I (put_rel hr undef_rel) hn hl.2 hlo.2 (fun hi => (hcq hi).2) hn0
      have hwa : Region.wanted o (ayielded ops T') = false := by rw [yielded_rel hr]; exact hw
      refine ⟨n, _, T2, H2, ?_, lastOf_cons _ h2, by simpa using h3, ⟨?_, h4⟩, ⟨hgr, h5⟩, ⟨?_, h6⟩, ⟨Nat.le_refl _, h7⟩, ⟨fun _ _ _ => rfl, h7c⟩, h8⟩
      · unfold traceE stepE
        rw [hwa]
        simp only [Bool.false_eq_true, if_false, h1]
      · split
        · rw [hwa]; trivial
        · trivial
      · split
        · rw [hwa]; trivial
        · trivial
    | true =>
      have h := (wG_wop h hw).1
      have hwa : Region.wanted o (ayielded ops T') = true := by rw [yielded_rel hr]; exact hw
      have key : ∃ n v H1 r σ1 k1 W1 β1, execE C (ev C n) T' o H = some (v, H1) ∧ Ext W β H W1 β1 H1 ∧ Sto H0 W0 c σ1 k1 W1 β1 H1 ∧ RelV H1 W1 β1 r v ∧ (pputK T o.dst r fun T' => wOps O C c true ops rest T' σ1 k1 Q) ∧
          (i + 1 ≤ cc → Quiet σs Hs σ1 H1 ∧ (freshIn C D o = false → RelV Hs Ws βs r v) ∧ ∀ A, A < H.n → H1.get A = H.get A) ∧
          (∀ t x, o.op = .load t x → ∃ b off, opd T' x = some (.ptr b off) ∧ b < Hs.n ∧ loadE C t (.ptr b off) Hs = some v ∧ v.same v = true) := by
        by_cases hf : freshIn C D o = false ∧ i ≤ cc
        · obtain ⟨q1, q2⟩ := hq hf.2
          obtain ⟨v, r, e1, e2, e3, e4, e5⟩ := free_ok h I hr hf.1 Is q1 q2
          exact ⟨0, v, H, r, σ, k, W, β, e1, Ext.refl _ _ _, I, e2, e3, fun _ => ⟨q1, fun _ => e4, fun _ _ => rfl⟩, e5⟩
        · obtain ⟨n, v, H1, e1, r, σ1, k1, W1, β1, E1, I1, e2, e3, e4⟩ := op_ok true h I fun x _ => TR_of hr x
          refine ⟨n, v, H1, r, σ1, k1, W1, β1, e1, E1, I1, e2, e3, fun hi => ?_, fun t x ht => ?_⟩
          · have hQ := e4 (hcq hi).1
            have q1 := (hq (by omega)).1
            exact ⟨q1.trans hQ hn, fun hfr => absurd ⟨hfr, by omega⟩ hf, hQ.1⟩
          · exfalso
            have hil : isLoad o = true := by simp [isLoad, ht]
            rw [hil] at hl hlo
            have h1 : freshIn C D o = false := by simpa using hl.1
            have h2 : Nat.ble i cc = true := by
              rcases hlo.1 with h | h
              · cases h
              · exact h.1
            exact hf ⟨h1, Nat.le_of_ble_eq_true h2⟩
      obtain ⟨n, v, H1, r, σ1, k1, W1, β1, e1, E1, I1, e2, e3, e4, e5⟩ := key
      have hK := pputK_ok e3
      have hn1 : i + 1 ≤ cc → Quiet σs Hs σ1 H1 ∧ ∀ t, t ∉ depStep C D o → RelV Hs Ws βs ((pputT T o.dst r).getD t undefP) ((putT T' o.dst v).getD t undefA) := fun hi => by
        obtain ⟨-, q2⟩ := hq (by omega)
        obtain ⟨q3, q4, -⟩ := e4 hi
        refine ⟨q3, fun t ht => ?_⟩
        cases hd : o.dst with
        | none =>
          unfold depStep at ht
          rw [hd] at ht
          exact q2 t ht
        | some d =>
          by_cases htd : t = d
          · subst htd
            have hfr : freshIn C D o = false := by
              cases hx : freshIn C D o with
              | false => rfl
              | true =>
                unfold depStep at ht
                rw [hd] at ht
                simp only [hx] at ht
                exact absurd (List.mem_cons_self ..) ht
            have hlen := hr.length
            simp only [pputT, putT, List.getD, List.getElem?_set, if_true]
            by_cases hlt : t < T.length
            · rw [if_pos hlt, if_pos (show t < T'.length by rw [← hlen]; exact hlt)]
              exact q4 hfr
            · rw [if_neg hlt, if_neg (show ¬ t < T'.length by rw [← hlen]; exact hlt)]
              exact undef_rel
          · have : t ∉ D := fun hm => ht (by
              unfold depStep
              rw [hd]
              simp only
              split
              · exact List.mem_cons_of_mem _ hm
              · refine List.mem_filter.2 ⟨hm, ?_⟩
                have : Nat.beq t d = false := by
                  rw [Bool.eq_false_iff]; exact fun e => htd (Nat.eq_of_beq_eq_true e)
                simp [this])
            have := q2 t this
            simp only [pputT, putT, List.getD, List.getElem?_set_ne (Ne.symm htd)]
            exact this
      obtain ⟨n2, tl, T2, H2, h1, h2, h3, h4, h5, h6, h7, h7c, T3, σ2, k2, W2, β2, E2, h8⟩ := wTr_ok Is hK I1 (put_rel (RelVs.ext E1 hr) e2) (Nat.le_trans hn E1.n) hl.2 hlo.2 (fun hi => (hcq hi).2) hn1
      have hs : stepE C (ev C n) ops o T' H = some (putT T' o.dst v, H1) := by
        unfold stepE
        rw [if_pos hwa, e1]
      refine ⟨max n n2, _, T2, H2, ?_, lastOf_cons _ h2, by simpa using h3, ⟨?_, h4⟩, ⟨hgr, h5⟩, ⟨?_, h6⟩, ⟨E1.n, h7⟩, ⟨fun hi => (e4 hi).2.2, h7c⟩, T3, σ2, k2, W2, β2, E1.trans E2, h8⟩
      · unfold traceE
        rw [stepE_mono (ev_mono (Nat.le_max_left n n2)) hs]
        simp only [traceE_mono (ev_mono (Nat.le_max_right n n2)) h1]
      · split
        · rename_i t x ht
          rw [hwa]
          obtain ⟨b, off, q1, q2, q3, q4⟩ := e5 t x ht
          exact ⟨b, off, v, q1, q2, q3, q4⟩
        · trivial
      · split
        · rename_i hk
          rw [hwa]
          simp only [execE, hk] at e1
          split at e1
          · cases e1
          · split at e1
            · rename_i b f ha
              obtain ⟨ty, cs, rfl⟩ := alloc_is ha
              cases e1
              exact ⟨ty, cs, f, ha, zero_same ha, Nat.lt_succ_self _, by rw [Heap.get_push I.nlim, if_pos rfl]⟩
            · cases e1
        · trivial
theorem open_ok {ops : List Oper} {T : List PV} {σ : List StB} {k : Nat} {Q : List PV → List StB → Nat → Prop} {W : Nat → Prop} {β : List Nat} {H : Heap} {T' : List AV} (hg : growS5 C ops = true)
    (h : wOps O C c true ops ops T σ k Q) (I : Sto H0 W0 c σ k W β H) (hr : All2 (RelV H W β) T T') :
    ∃ n tr T2 H2, traceE C (ev C n) ops ops T' H = some tr ∧ lastOf tr = some (T2, H2) ∧ drawOk C ops tr = true ∧ EndR H0 W0 c W β H Q T2 H2 := by
  simp only [growS5, Bool.and_eq_true] at hg
  obtain ⟨⟨⟨g1, g2⟩, g3⟩, g4⟩ := hg
  obtain ⟨n, tl, T2, H2, h1, h2, h3, h4, h5, h6, h7, h7c, h8⟩ := wTr_ok (m := ops.length) (cc := cOf ops) I h I hr (Nat.le_refl _) g4 g2 (fun _ => rfl) fun _ => ⟨Quiet.refl _ _, fun t _ => TR_of hr (.tmp t)⟩
  refine ⟨n, _, T2, H2, h1, h2, ?_, h8⟩
  have hlen : ((T', H) :: tl).length = ops.length + 1 := by simp [h3]
  unfold drawOk
  simp only [g1, loads_of2 h5 hlen (cOf_le ops) ops _ 0 h4 h5 g2, allocs_q hlen ops _ 0 (fun q => by rw [Nat.zero_add]) g3 h6 h7c h7, mono_of h7, Bool.and_self]
def PV.det : PV → Bool
  | .int _ _ => true
  | .bool _ => true
  | .nils => true
  | .own _ _ _ _ _ => true
  | .ownu _ _ _ => true
  | .ownq _ _ _ _ => true
  | .optr _ _ => true
  | _ => false
def detL : List PV → Bool
  | [] => true
  | p :: ps => p.det && detL ps
theorem det_eq {H H' : Heap} {W W' : Nat → Prop} {β β' : List Nat} (hb : ∀ (i b : Nat), β[i]? = some b → β'[i]? = some b) {p : PV} {a a' : AV} (hd : p.det = true) (h : RelV H W β p a) (h' : RelV H' W' β' p a') : a = a' := by
  cases p <;> simp only [PV.det, Bool.false_eq_true] at hd
  case int k n =>
    cases h with | clo h => cases h; cases h' with | clo h' => cases h'; rfl
  case bool b =>
    cases h with | clo h => cases h; cases h' with | clo h' => cases h'; rfl
  case nils =>
    cases h with
    | clo h => cases h
    | nils => cases h' with
      | clo h' => cases h'
      | nils => rfl
  case own i o n c e =>
    cases h with
    | clo h => cases h
    | own _ _ _ _ h => cases h' with
      | clo h' => cases h'
      | own _ _ _ _ h' => rw [hb _ _ h] at h'; cases h'; rfl
  case ownu i n e =>
    cases h with
    | clo h => cases h
    | ownu _ _ h => cases h' with
      | clo h' => cases h'
      | ownu _ _ h' => rw [hb _ _ h] at h'; cases h'; rfl
  case ownq i o n e =>
    cases h with
    | clo h => cases h
    | ownq _ _ _ h => cases h' with
      | clo h' => cases h'
      | ownq _ _ _ h' => rw [hb _ _ h] at h'; cases h'; rfl
  case optr i o =>
    cases h with
    | clo h => cases h
    | optr _ h => cases h' with
      | clo h' => cases h'
      | optr _ h' => rw [hb _ _ h] at h'; cases h'; rfl
theorem detL_eq {H H' : Heap} {W W' : Nat → Prop} {β β' : List Nat} (hb : ∀ (i b : Nat), β[i]? = some b → β'[i]? = some b) : ∀ {ps : List PV} {as as' : List AV}, detL ps = true → All2 (RelV H W β) ps as → All2 (RelV H' W' β') ps as' → as = as'
  | [], _, _, _, .nil, .nil => rfl
  | p :: ps, _, _, hd, .cons h hs, .cons h' hs' => by
    simp only [detL, Bool.and_eq_true] at hd
    rw [det_eq hb hd.1 h h', detL_eq hb hd.2 hs hs']
def lkP : List (Nat × Nat) → Nat → Option Nat
  | [], _ => none
  | (i, L) :: r, m => match Nat.beq i m with
    | true => some L
    | false => lkP r m
def pinned (T : List PV) (o : Oper) (L : Nat) : Prop :=
  match o.op with
  | .load _ (.tmp t) => (match T.getD t undefP with
    | .optr L' _ => L' = L
    | _ => False)
  | _ => False
def wPin (ps : List (Nat × Nat)) (e : Nat) (T : List PV) (o : Oper) (K : Prop) : Prop :=
  match lkP ps e with
  | none => K
  | some L => pinned T o L ∧ K
def stay (σs σ : List StB) : List (Nat × Nat) → Prop
  | [] => True
  | (_, L) :: r => (∃ ty cs, σs[L]? = some (.liv ty cs) ∧ detL cs = true ∧ σ[L]? = some (.liv ty cs)) ∧ stay σs σ r
def wStay (b : Bool) (σs σ : List StB) (ps : List (Nat × Nat)) (K : Prop) : Prop :=
  match b with
  | true => stay σs σ ps ∧ K
  | false => K
def wOpsC (O : Opn) (C : Ctx) (c : Nat) (ops : List Oper) (σs : List StB) (ps : List (Nat × Nat)) (d : Nat) : Nat → List Oper → List PV → List StB → Nat → (List PV → List StB → Nat → Prop) → Prop
  | _, [], T, σ, k, Q => Q T σ k
  | e, o :: rest, T, σ, k, Q => wPin ps e T o (wG O C c (Nat.blt d e) ops o T σ k fun T' σ' k' => wStay (Nat.blt 0 e && Nat.ble e d) σs σ' ps (wOpsC O C c ops σs ps d (e - 1) rest T' σ' k' Q))
def cutOk : Nat → List Oper → Bool
  | 0, [] => true
  | 0, o :: _ => !isLoad o
  | _ + 1, [] => true
  | m + 1, o :: os => quietOp o.op && cutOk m os
def lastOk3 (C : Ctx) (ops : List Oper) (pre : List Nat) (cc d m : Nat) (ps : List (Nat × Nat)) : List Oper → Nat → Bool
  | [], _ => true
  | o :: os, i => (!isLoad o || (Nat.ble i cc && (noneFrom C ops pre i (cc + 1) (m - cc) || ((lkP ps (cc + d - i)).isSome && noneFrom C ops pre i (cc + d + 1) (m - (cc + d)))))) && lastOk3 C ops pre cc d m ps os (i + 1)
def growS8 (C : Ctx) (cc d : Nat) (ps : List (Nat × Nat)) (ops : List Oper) : Bool := orderOk C ops (preList ops []) ops 0 && lastOk3 C ops (preList ops []) cc d ops.length ps ops 0 && alQt C ops (preList ops []) cc ops 0 && ldFree C ops [] && cutOk cc ops && Nat.ble (cc + d) ops.length
def inP (βs : List Nat) (ps : List (Nat × Nat)) (A : Nat) : Prop := ∃ i L, (i, L) ∈ ps ∧ βs[L]? = some A
theorem lkP_mem : ∀ {ps : List (Nat × Nat)} {m L : Nat}, lkP ps m = some L → ∃ i, (i, L) ∈ ps
  | [], _, _, h => by cases h
  | (i, L') :: r, m, L, h => by
    unfold lkP at h
    split at h
    · cases h; exact ⟨i, List.mem_cons_self ..⟩
    · obtain ⟨j, hj⟩ := lkP_mem h
      exact ⟨j, List.mem_cons_of_mem _ hj⟩
theorem stay_get {σs σ : List StB} {ks k : Nat} {Ws W : Nat → Prop} {βs β : List Nat} {Hs H : Heap} (Is : Sto H0 W0 c σs ks Ws βs Hs) (I : Sto H0 W0 c σ k W β H) (hb : ∀ (i b : Nat), βs[i]? = some b → β[i]? = some b) :
    ∀ {ps : List (Nat × Nat)}, stay σs σ ps → ∀ A, inP βs ps A → H.get A = Hs.get A
  | [], _, A, ⟨_, _, hm, _⟩ => by cases hm
  | (i, L) :: r, hs, A, ⟨i', L', hm, hA⟩ => by
    rcases List.mem_cons.1 hm with h | h
    · cases h
      obtain ⟨ty, cs, h1, h2, h3⟩ := hs.1
      obtain ⟨-, as, q1, q2⟩ := Is.liv L ty cs A h1 hA
      obtain ⟨-, as', q3, q4⟩ := I.liv L ty cs A h3 (hb _ _ hA)
      rw [q1, q3, detL_eq hb h2 q2 q4]
    · exact stay_get Is I hb hs.2 A ⟨i', L', h, hA⟩
def grC3 (Hs : Heap) (P : Nat → Prop) (cc cd : Nat) : List (List AV × Heap) → Nat → Prop
  | [], _ => True
  | x :: r, p => (p ≤ cc → ∀ A, A < Hs.n → x.2.get A = Hs.get A) ∧ (p ≤ cd → ∀ A, P A → x.2.get A = Hs.get A) ∧ grC3 Hs P cc cd r (p + 1)
def ldsP3 (C : Ctx) (ops : List Oper) (pre : List Nat) (Hs : Heap) (P : Nat → Prop) (cc cd m : Nat) : List Oper → List (List AV × Heap) → Nat → Prop
  | o :: os, (T, _) :: tr, i => (∀ t x, o.op = .load t x → Region.wanted o (ayielded ops T) = true → i ≤ cc ∧ ∃ b off v, opd T x = some (.ptr b off) ∧ b < Hs.n ∧ loadE C t (.ptr b off) Hs = some v ∧ v.same v = true ∧
      (noneFrom C ops pre i (cc + 1) (m - cc) = true ∨ (P b ∧ noneFrom C ops pre i (cd + 1) (m - cd) = true))) ∧ ldsP3 C ops pre Hs P cc cd m os tr (i + 1)
  | _, _, _ => True
theorem loadAts_of8 {C : Ctx} {ops : List Oper} {pre : List Nat} {i : Nat} {t : TypeId} {b off : Nat} {v : AV} {Hs : Heap} {P : Nat → Prop} {cc cd m : Nat} (hb : b < Hs.n) (hl : loadE C t (.ptr b off) Hs = some v) (hs : v.same v = true)
    (hlast : noneFrom C ops pre i (cc + 1) (m - cc) = true ∨ (P b ∧ noneFrom C ops pre i (cd + 1) (m - cd) = true)) :
    ∀ (tr : List (List AV × Heap)) (p : Nat), grC3 Hs P cc cd tr p → p + tr.length = m + 1 → loadAts C ops pre i t (.ptr b off) v tr p = true
  | [], _, _, _ => rfl
  | (T, H) :: r, p, hg, hp => by
    simp only [loadAts]
    simp at hp
    rw [loadAts_of8 hb hl hs hlast r (p + 1) hg.2.2 (by omega), Bool.and_true]
    by_cases hc : p ≤ cc
    · rw [load_get (hg.1 hc b hb), hl]
      simp [hs]
    · rcases hlast with h | ⟨h1, h2⟩
      · rw [none_of _ _ h p (by omega) (by omega)]
        simp
      · by_cases hd : p ≤ cd
        · rw [load_get (hg.2.1 hd b h1), hl]
          simp [hs]
        · rw [none_of _ _ h2 p (by omega) (by omega)]
          simp
theorem loads_of8 {C : Ctx} {ops : List Oper} {pre : List Nat} {all : List (List AV × Heap)} {Hs : Heap} {P : Nat → Prop} {cc cd m : Nat} (hall : grC3 Hs P cc cd all 0) (hlen : all.length = m + 1) : ∀ (os : List Oper) (tr : List (List AV × Heap)) (i : Nat), ldsP3 C ops pre Hs P cc cd m os tr i → grC3 Hs P cc cd tr i → loadsOk C ops pre all os tr i = true
  | [], tr, _, _, _ => by cases tr <;> rfl
  | o :: os, [], _, _, _ => rfl
  | o :: os, (T, H) :: tr, i, h, hg => by
    simp only [loadsOk]
    rw [loads_of8 hall hlen os tr (i + 1) h.2 hg.2.2, Bool.and_true]
    have h1 := h.1
    cases ho : o.op <;> simp only
    rename_i t x
    cases hw : Region.wanted o (ayielded ops T) with
    | false => simp
    | true =>
      obtain ⟨hi, b, off, v, e1, e2, e3, e4, e5⟩ := h1 t x ho hw
      simp only [if_true, e1]
      rw [load_get (hg.1 hi b e2), e3]
      exact loadAts_of8 (m := m) e2 e3 e4 e5 all 0 hall (by omega)
theorem wTr_ok2 {ops : List Oper} {m cc d : Nat} {ps : List (Nat × Nat)} {σs : List StB} {ks : Nat} {Ws : Nat → Prop} {βs : List Nat} {Hs : Heap} (Is : Sto H0 W0 c σs ks Ws βs Hs) :
    ∀ {rest : List Oper} {i : Nat} {D : List Tmp} {T : List PV} {σ : List StB} {k : Nat} {Q : List PV → List StB → Nat → Prop} {W : Nat → Prop} {β : List Nat} {H : Heap} {T' : List AV},
    wOpsC O C c ops σs ps d (cc + d - i) rest T σ k Q → Sto H0 W0 c σ k W β H → All2 (RelV H W β) T T' → Ext Ws βs Hs W β H →
    ldFree C rest D = true → lastOk3 C ops (preList ops []) cc d m ps rest i = true → (i ≤ cc → cutOk (cc - i) rest = true) →
    (i ≤ cc → Quiet σs Hs σ H ∧ ∀ t, t ∉ D → RelV Hs Ws βs (T.getD t undefP) (T'.getD t undefA)) → (i ≤ cc + d → ∀ A, inP βs ps A → H.get A = Hs.get A) →
    ∃ n tl T2 H2, traceE C (ev C n) ops rest T' H = some ((T', H) :: tl) ∧ lastOf ((T', H) :: tl) = some (T2, H2) ∧ tl.length = rest.length ∧ ldsP3 C ops (preList ops []) Hs (inP βs ps) cc (cc + d) m rest ((T', H) :: tl) i ∧ grC3 Hs (inP βs ps) cc (cc + d) ((T', H) :: tl) i ∧
      alsQ C ops rest ((T', H) :: tl) ∧ mnP ((T', H) :: tl) ∧ qtP cc ((T', H) :: tl) i ∧ EndR H0 W0 c W β H Q T2 H2
  | [], i, D, T, σ, k, Q, W, β, H, T', h, I, hr, hE, hl, hlo, hc, hq, hst => by
    exact ⟨0, [], T', H, rfl, rfl, rfl, trivial, ⟨fun hi => (hq hi).1.1, hst, trivial⟩, trivial, trivial, trivial, T, σ, k, W, β, Ext.refl _ _ _, I, hr, h⟩
  | o :: rest, i, D, T, σ, k, Q, W, β, H, T', h, I, hr, hE, hl, hlo, hc, hq, hst => by
    have hn := hE.n
    have h : wPin ps (cc + d - i) T o (wG O C c (Nat.blt d (cc + d - i)) ops o T σ k fun T' σ' k' => wStay (Nat.blt 0 (cc + d - i) && Nat.ble (cc + d - i) d) σs σ' ps (wOpsC O C c ops σs ps d (cc + d - (i + 1)) rest T' σ' k' Q)) := h
    have hpin : ∀ L, lkP ps (cc + d - i) = some L → pinned T o L := fun L hL => by
      unfold wPin at h
      rw [hL] at h
      exact h.1
    have h : wG O C c (Nat.blt d (cc + d - i)) ops o T σ k fun T' σ' k' => wStay (Nat.blt 0 (cc + d - i) && Nat.ble (cc + d - i) d) σs σ' ps (wOpsC O C c ops σs ps d (cc + d - (i + 1)) rest T' σ' k' Q) := by
      unfold wPin at h
      split at h
      · exact h
      · exact h.2
    have unst : ∀ {σ' : List StB} {K : Prop}, wStay (Nat.blt 0 (cc + d - i) && Nat.ble (cc + d - i) d) σs σ' ps K → K ∧ (cc ≤ i → i < cc + d → stay σs σ' ps) := fun {σ' K} hx => by
      unfold wStay at hx
      split at hx
      · exact ⟨hx.2, fun _ _ => hx.1⟩
      · rename_i hb
        refine ⟨hx, fun h1 h2 => ?_⟩
        rw [Nat.ble_eq_true_of_le (show cc + d - i ≤ d by omega), show Nat.blt 0 (cc + d - i) = true from Nat.ble_eq_true_of_le (show 0 + 1 ≤ cc + d - i by omega)] at hb
        cases hb
    simp only [ldFree, Bool.and_eq_true, Bool.or_eq_true, Bool.not_eq_true'] at hl
    simp only [lastOk3, Bool.and_eq_true, Bool.or_eq_true, Bool.not_eq_true'] at hlo
    have hgr : i ≤ cc → ∀ A, A < Hs.n → H.get A = Hs.get A := fun hi => (hq hi).1.1
    have hcq : i + 1 ≤ cc → quietOp o.op = true ∧ cutOk (cc - (i + 1)) rest = true := fun hi => by
      have h1 := hc (by omega)
      obtain ⟨m, hm⟩ : ∃ m, cc - i = m + 1 := ⟨cc - i - 1, by omega⟩
      rw [hm] at h1
      simp only [cutOk, Bool.and_eq_true] at h1
      rw [show cc - (i + 1) = m by omega]
      exact h1
    cases hw : Region.wanted o (pyielded ops T) with
    | false =>
      unfold wG at h
      rw [hw] at h
      have hK := (unst (pputK_ok h)).1
      have hn0 : i + 1 ≤ cc → Quiet σs Hs σ H ∧ ∀ t, t ∉ depStep C D o → RelV Hs Ws βs ((pputT T o.dst undefP).getD t undefP) ((putT T' o.dst undefA).getD t undefA) := fun hi => by
        obtain ⟨q1, q2⟩ := hq (by omega)
        refine ⟨q1, fun t ht => ?_⟩
        cases hd : o.dst with
        | none =>
          unfold depStep at ht
          rw [hd] at ht
          exact q2 t ht
        | some d =>
          by_cases htd : t = d
          · subst htd
            have hlen := hr.length
            simp only [pputT, putT, List.getD, List.getElem?_set, if_true]
            by_cases hlt : t < T.length
            · rw [if_pos hlt, if_pos (show t < T'.length by rw [← hlen]; exact hlt)]
              exact undef_rel
            · rw [if_neg hlt, if_neg (show ¬ t < T'.length by rw [← hlen]; exact hlt)]
              exact undef_rel
          · have : t ∉ D := fun hm => ht (by
              unfold depStep
              rw [hd]
              simp only
              split
              · exact List.mem_cons_of_mem _ hm
              · refine List.mem_filter.2 ⟨hm, ?_⟩
                have : Nat.beq t d = false := by
                  rw [Bool.eq_false_iff]; exact fun e => htd (Nat.eq_of_beq_eq_true e)
                simp [this])
            have := q2 t this
            simp only [pputT, putT, List.getD, List.getElem?_set_ne (Ne.symm htd)]
            exact this
      obtain ⟨n, tl, T2, H2, h1, h2, h3, h4, h5, h6, h7, h7c, h8⟩ := wTr_ok2 Is hK I (put_rel hr undef_rel) hE hl.2 hlo.2 (fun hi => (hcq hi).2) hn0 (fun hi => hst (by omega))
      have hwa : Region.wanted o (ayielded ops T') = false := by rw [yielded_rel hr]; exact hw
      refine ⟨n, _, T2, H2, ?_, lastOf_cons _ h2, by simpa using h3, ⟨fun t x _ hwx => (by rw [hwa] at hwx; cases hwx), h4⟩, ⟨hgr, hst, h5⟩, ⟨?_, h6⟩, ⟨Nat.le_refl _, h7⟩, ⟨fun _ _ _ => rfl, h7c⟩, h8⟩
      · unfold traceE stepE
        rw [hwa]
        simp only [Bool.false_eq_true, if_false, h1]
      · split
        · rw [hwa]; trivial
        · trivial
    | true =>
      have h := (wG_wop h hw).1
      have hwa : Region.wanted o (ayielded ops T') = true := by rw [yielded_rel hr]; exact hw
      have key : ∃ n v H1 r σ1 k1 W1 β1, execE C (ev C n) T' o H = some (v, H1) ∧ Ext W β H W1 β1 H1 ∧ Sto H0 W0 c σ1 k1 W1 β1 H1 ∧ RelV H1 W1 β1 r v ∧ (pputK T o.dst r fun T' => wStay (Nat.blt 0 (cc + d - i) && Nat.ble (cc + d - i) d) σs σ1 ps (wOpsC O C c ops σs ps d (cc + d - (i + 1)) rest T' σ1 k1 Q)) ∧
          (i + 1 ≤ cc → Quiet σs Hs σ1 H1 ∧ (freshIn C D o = false → RelV Hs Ws βs r v) ∧ ∀ A, A < H.n → H1.get A = H.get A) ∧
          (∀ t x, o.op = .load t x → ∃ b off, opd T' x = some (.ptr b off) ∧ b < Hs.n ∧ loadE C t (.ptr b off) Hs = some v ∧ v.same v = true ∧ i < cc ∧ freshIn C D o = false) := by
        by_cases hf : freshIn C D o = false ∧ i < cc
        · obtain ⟨q1, q2⟩ := hq (by omega)
          have hb0 : Nat.blt d (cc + d - i) = true := Nat.ble_eq_true_of_le (show d + 1 ≤ cc + d - i by omega)
          rw [hb0] at h
          obtain ⟨v, r, e1, e2, e3, e4, e5⟩ := free_ok h I hr hf.1 Is q1 q2
          exact ⟨0, v, H, r, σ, k, W, β, e1, Ext.refl _ _ _, I, e2, e3, fun _ => ⟨q1, fun _ => e4, fun _ _ => rfl⟩, fun t x ht => by
            obtain ⟨b, off, z1, z2, z3, z4⟩ := e5 t x ht
            exact ⟨b, off, z1, z2, z3, z4, hf.2, hf.1⟩⟩
        · obtain ⟨n, v, H1, e1, r, σ1, k1, W1, β1, E1, I1, e2, e3, e4⟩ := op_ok _ h I fun x _ => TR_of hr x
          refine ⟨n, v, H1, r, σ1, k1, W1, β1, e1, E1, I1, e2, e3, fun hi => ?_, fun t x ht => ?_⟩
          · have hb0 : Nat.blt d (cc + d - i) = true := Nat.ble_eq_true_of_le (show d + 1 ≤ cc + d - i by omega)
            have hQ := e4 (by rw [hb0]; exact (hcq hi).1)
            have q1 := (hq (by omega)).1
            exact ⟨q1.trans hQ hn, fun hfr => absurd ⟨hfr, by omega⟩ hf, hQ.1⟩
          · exfalso
            have hil : isLoad o = true := by simp [isLoad, ht]
            rw [hil] at hl hlo
            have h1 : freshIn C D o = false := by simpa using hl.1
            have h2 : Nat.ble i cc = true := by
              rcases hlo.1 with h | h
              · cases h
              · exact h.1
            have h3 := Nat.le_of_ble_eq_true h2
            by_cases h4 : i < cc
            · exact hf ⟨h1, h4⟩
            · have h5 := hc h3
              rw [show cc - i = 0 by omega] at h5
              simp only [cutOk, hil, Bool.not_true] at h5
              cases h5
      obtain ⟨n, v, H1, r, σ1, k1, W1, β1, e1, E1, I1, e2, e3, e4, e5⟩ := key
      have hKs := unst (pputK_ok e3)
      have hK := hKs.1
      have hE1 := hE.trans E1
      have hst1 : i + 1 ≤ cc + d → ∀ A, inP βs ps A → H1.get A = Hs.get A := fun hi A hA => by
        by_cases hic : i + 1 ≤ cc
        · obtain ⟨q3, -, -⟩ := e4 hic
          obtain ⟨_, L, _, hL⟩ := hA
          exact q3.1 A (Is.bl L A hL).2
        · exact stay_get Is I1 hE1.bt (hKs.2 (by omega) (by omega)) A hA
      have hn1 : i + 1 ≤ cc → Quiet σs Hs σ1 H1 ∧ ∀ t, t ∉ depStep C D o → RelV Hs Ws βs ((pputT T o.dst r).getD t undefP) ((putT T' o.dst v).getD t undefA) := fun hi => by
        obtain ⟨-, q2⟩ := hq (by omega)
        obtain ⟨q3, q4, -⟩ := e4 hi
        refine ⟨q3, fun t ht => ?_⟩
        cases hd : o.dst with
        | none =>
          unfold depStep at ht
          rw [hd] at ht
          exact q2 t ht
        | some d =>
          by_cases htd : t = d
          · subst htd
            have hfr : freshIn C D o = false := by
              cases hx : freshIn C D o with
              | false => rfl
              | true =>
                unfold depStep at ht
                rw [hd] at ht
                simp only [hx] at ht
                exact absurd (List.mem_cons_self ..) ht
            have hlen := hr.length
            simp only [pputT, putT, List.getD, List.getElem?_set, if_true]
            by_cases hlt : t < T.length
            · rw [if_pos hlt, if_pos (show t < T'.length by rw [← hlen]; exact hlt)]
              exact q4 hfr
            · rw [if_neg hlt, if_neg (show ¬ t < T'.length by rw [← hlen]; exact hlt)]
              exact undef_rel
          · have : t ∉ D := fun hm => ht (by
              unfold depStep
              rw [hd]
              simp only
              split
              · exact List.mem_cons_of_mem _ hm
              · refine List.mem_filter.2 ⟨hm, ?_⟩
                have : Nat.beq t d = false := by
                  rw [Bool.eq_false_iff]; exact fun e => htd (Nat.eq_of_beq_eq_true e)
                simp [this])
            have := q2 t this
            simp only [pputT, putT, List.getD, List.getElem?_set_ne (Ne.symm htd)]
            exact this
      obtain ⟨n2, tl, T2, H2, h1, h2, h3, h4, h5, h6, h7, h7c, T3, σ2, k2, W2, β2, E2, h8⟩ := wTr_ok2 Is hK I1 (put_rel (RelVs.ext E1 hr) e2) hE1 hl.2 hlo.2 (fun hi => (hcq hi).2) hn1 hst1
      have hs : stepE C (ev C n) ops o T' H = some (putT T' o.dst v, H1) := by
        unfold stepE
        rw [if_pos hwa, e1]
      refine ⟨max n n2, _, T2, H2, ?_, lastOf_cons _ h2, by simpa using h3, ⟨fun t x ht _ => ?_, h4⟩, ⟨hgr, hst, h5⟩, ⟨?_, h6⟩, ⟨E1.n, h7⟩, ⟨fun hi => (e4 hi).2.2, h7c⟩, T3, σ2, k2, W2, β2, E1.trans E2, h8⟩
      · unfold traceE
        rw [stepE_mono (ev_mono (Nat.le_max_left n n2)) hs]
        simp only [traceE_mono (ev_mono (Nat.le_max_right n n2)) h1]
      · obtain ⟨b, off, q1, q2, q3, q4, q5, q6⟩ := e5 t x ht
        refine ⟨by omega, b, off, v, q1, q2, q3, q4, ?_⟩
        have hil : isLoad o = true := by simp [isLoad, ht]
        rw [hil] at hlo
        rcases hlo.1 with h | h
        · cases h
        rcases h.2 with h | ⟨hs, hx⟩
        · exact .inl h
        refine .inr ⟨?_, hx⟩
        obtain ⟨L, hL⟩ := Option.isSome_iff_exists.1 hs
        have hp := hpin L hL
        obtain ⟨j, hj⟩ := lkP_mem hL
        have hD := (hq (by omega)).2
        cases x with
        | tmp tt =>
          simp only [pinned, ht] at hp
          have hfx : tt ∉ D := fun hm => by
            have : freshIn C D o = true := by
              unfold freshIn
              split
              · rfl
              · rfl
              · rfl
              · simp [ht, Op.operands, hm]
            rw [this] at q6; cases q6
          have hrv := hD tt hfx
          cases hT : T.getD tt undefP <;> rw [hT] at hp <;> try exact hp.elim
          rename_i L' o'
          have hp : L' = L := hp
          subst hp
          have q1 : T'.getD tt undefA = .ptr b off := Option.some.inj q1
          rw [hT, q1] at hrv
          cases hrv with
          | clo h => cases h
          | optr _ hb => exact ⟨j, L', hj, hb⟩
        | _ => simp only [pinned, ht] at hp
      · split
        · rename_i hk
          rw [hwa]
          simp only [execE, hk] at e1
          split at e1
          · cases e1
          · split at e1
            · rename_i b f ha
              obtain ⟨ty, cs, rfl⟩ := alloc_is ha
              cases e1
              exact ⟨ty, cs, f, ha, zero_same ha, Nat.lt_succ_self _, by rw [Heap.get_push I.nlim, if_pos rfl]⟩
            · cases e1
        · trivial
theorem open_ok8 {cc d : Nat} {ps : List (Nat × Nat)} {ops : List Oper} {T : List PV} {σ : List StB} {k : Nat} {Q : List PV → List StB → Nat → Prop} {W : Nat → Prop} {β : List Nat} {H : Heap} {T' : List AV} (hg : growS8 C cc d ps ops = true)
    (h : wOpsC O C c ops σ ps d (cc + d) ops T σ k Q) (I : Sto H0 W0 c σ k W β H) (hr : All2 (RelV H W β) T T') :
    ∃ n tr T2 H2, traceE C (ev C n) ops ops T' H = some tr ∧ lastOf tr = some (T2, H2) ∧ drawOk C ops tr = true ∧ EndR H0 W0 c W β H Q T2 H2 := by
  simp only [growS8, Bool.and_eq_true] at hg
  obtain ⟨⟨⟨⟨⟨g1, g2⟩, g3⟩, g4⟩, g5⟩, g6⟩ := hg
  have g6 := Nat.le_of_ble_eq_true g6
  obtain ⟨n, tl, T2, H2, h1, h2, h3, h4, h5, h6, h7, h7c, h8⟩ := wTr_ok2 (m := ops.length) (cc := cc) I h I hr (Ext.refl _ _ _) g4 g2 (fun _ => g5) (fun _ => ⟨Quiet.refl _ _, fun t _ => TR_of hr (.tmp t)⟩) fun _ _ _ => rfl
  refine ⟨n, _, T2, H2, h1, h2, ?_, h8⟩
  have hlen : ((T', H) :: tl).length = ops.length + 1 := by simp [h3]
  unfold drawOk
  simp only [g1, loads_of8 h5 hlen ops _ 0 h4 h5, allocs_q hlen ops _ 0 (fun q => by rw [Nat.zero_add]) g3 h6 h7c h7, mono_of h7, Bool.and_self]
end
end Go.PI
