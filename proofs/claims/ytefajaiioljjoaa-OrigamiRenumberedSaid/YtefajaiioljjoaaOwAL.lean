/- Own work of the verifier: PvPure PvPur2. -/
import Derived.Test.YtefajaiioljjoaaOwAK
set_option linter.all false
set_option exponentiation.threshold 3000
set_option linter.deprecated false
/- PLAIN VALUES: operations that ask nothing of memory. -/
namespace Go.PI
def pgetK : List PV → Nat → (PV → Prop) → Prop
  | [], _, K => K undefP
  | a :: _, 0, K => K a
  | _ :: as, n + 1, K => pgetK as n K
theorem pgetK_ok : ∀ {T : List PV} {n : Nat} {K : PV → Prop}, pgetK T n K → K (T.getD n undefP)
  | [], _, _, h => h
  | _ :: _, 0, _, h => h
  | _ :: as, n + 1, _, h => by
    have := pgetK_ok (T := as) (n := n) h
    simpa using this
def psetK : List PV → Nat → PV → (List PV → Prop) → Prop
  | [], _, _, K => K []
  | _ :: as, 0, v, K => K (v :: as)
  | a :: as, n + 1, v, K => psetK as n v fun as' => K (a :: as')
theorem psetK_ok : ∀ {T : List PV} {n : Nat} {v : PV} {K : List PV → Prop}, psetK T n v K → K (T.set n v)
  | [], _, _, _, h => h
  | _ :: _, 0, _, _, h => h
  | _ :: as, n + 1, v, _, h => by
    have := psetK_ok (T := as) (n := n) (v := v) h
    simpa using this
def pputK (T : List PV) (d : Option Tmp) (v : PV) (K : List PV → Prop) : Prop :=
  match d with
  | some d => psetK T d v K
  | none => K T
def pputT (T : List PV) (d : Option Tmp) (v : PV) : List PV :=
  match d with
  | some d => T.set d v
  | none => T
theorem pputK_ok {T : List PV} {d : Option Tmp} {v : PV} {K : List PV → Prop} (h : pputK T d v K) : K (pputT T d v) := by
  cases d with
  | none => exact h
  | some d => exact psetK_ok h
def cellP : AV → Option PV
  | .int k n => some (.int k n)
  | .bool b => some (.bool b)
  | .str s => some (.str s)
  | .nilp => some .nilp
  | .nilf => some .nilf
  | .nilm => some .nilm
  | .nili => some .nili
  | .nils => some (.lst 0 [])
  | _ => none
def cellPs : List AV → Option (List PV)
  | [] => some []
  | a :: as => match cellP a, cellPs as with
    | some p, some ps => some (p :: ps)
    | _, _ => none
theorem cellP_ok {H : Heap} {W : Nat → Prop} {a : AV} {p : PV} (h : cellP a = some p) : RelC H W p a := by
  cases a <;> simp [cellP] at h <;> subst h
  · exact .int _ _
  · exact .bool _
  · exact .str _
  · exact .nilp
  · exact .lnil
  · exact .nilf
  · exact .nilm
  · exact .nili
theorem cellPs_ok {H : Heap} {W : Nat → Prop} : ∀ {as : List AV} {ps : List PV}, cellPs as = some ps → All2 (RelC H W) ps as
  | [], _, h => by cases h; exact .nil
  | a :: as, ps, h => by
    unfold cellPs at h
    split at h
    · rename_i p ps' h1 h2
      cases h
      exact .cons (cellP_ok h1) (cellPs_ok h2)
    · cases h
def cellV : AV → Option PV
  | .nils => some .nils
  | a => cellP a
def cellVs : List AV → Option (List PV)
  | [] => some []
  | a :: as => match cellV a, cellVs as with
    | some p, some ps => some (p :: ps)
    | _, _ => none
theorem cellV_ok {H : Heap} {W : Nat → Prop} {β : List Nat} {a : AV} {p : PV} (h : cellV a = some p) : RelV H W β p a := by
  unfold cellV at h
  split at h
  · cases h; exact .nils
  · exact .clo (cellP_ok h)
theorem cellVs_ok {H : Heap} {W : Nat → Prop} {β : List Nat} : ∀ {as : List AV} {ps : List PV}, cellVs as = some ps → All2 (RelV H W β) ps as
  | [], _, h => by cases h; exact .nil
  | a :: as, ps, h => by
    unfold cellVs at h
    split at h
    · rename_i p ps' h1 h2
      cases h
      exact .cons (cellV_ok h1) (cellVs_ok h2)
    · cases h
def constA : AV → Option PV
  | .agg as => match cellPs as with
    | some ps => some (.agg ps)
    | none => none
  | .tup [] => some (.tup [])
  | .nils => some .nils
  | a => cellP a
theorem constA_ok {H : Heap} {W : Nat → Prop} {β : List Nat} {a : AV} {p : PV} (h : constA a = some p) : RelV H W β p a := by
  unfold constA at h
  split at h
  · split at h
    · rename_i ps h1
      cases h
      exact .clo (.agg (cellPs_ok h1))
    · cases h
  · cases h; exact .clo (.tup .nil)
  · cases h; exact .nils
  · exact .clo (cellP_ok h)
def popdK (T : List PV) (x : Operand) (K : PV → Prop) : Prop :=
  match x with
  | .tmp t => pgetK T t K
  | .const v => match ofConst v with
    | some a => match constA a with
      | some p => K p
      | none => False
    | none => False
  | .global _ => False
  | .func f => K (.fn f)
def popdsK (T : List PV) : List Operand → (List PV → Prop) → Prop
  | [], K => K []
  | x :: xs, K => popdK T x fun a => popdsK T xs fun as => K (a :: as)
def TR (H : Heap) (W : Nat → Prop) (β : List Nat) (T : List PV) (T' : List AV) (x : Operand) : Prop :=
  match x with
  | .tmp t => RelV H W β (T.getD t undefP) (T'.getD t undefA)
  | _ => True
def pOp (T : List PV) (x : Operand) : Option PV :=
  match x with
  | .tmp t => some (T.getD t undefP)
  | .const v => match ofConst v with
    | some a => constA a
    | none => none
  | .global _ => none
  | .func f => some (.fn f)
def pOps (T : List PV) : List Operand → Option (List PV)
  | [] => some []
  | x :: xs => match pOp T x, pOps T xs with
    | some a, some as => some (a :: as)
    | _, _ => none
theorem popdK_ok {T : List PV} {x : Operand} {K : PV → Prop} (h : popdK T x K) : ∃ p, pOp T x = some p ∧ K p := by
  cases x with
  | tmp t => exact ⟨_, rfl, pgetK_ok h⟩
  | const v =>
    simp only [popdK] at h
    split at h
    · rename_i a ha
      split at h
      · rename_i p hp
        exact ⟨p, by simp only [pOp, ha, hp], h⟩
      · exact h.elim
    · exact h.elim
  | global g => exact h.elim
  | func f => exact ⟨_, rfl, h⟩
theorem popdsK_ok {T : List PV} : ∀ {xs : List Operand} {K : List PV → Prop}, popdsK T xs K → ∃ ps, pOps T xs = some ps ∧ K ps
  | [], _, h => ⟨[], rfl, h⟩
  | x :: xs, K, h => by
    obtain ⟨a, h1, h2⟩ := popdK_ok (show popdK T x fun a => popdsK T xs fun as => K (a :: as) from h)
    obtain ⟨as, h3, h4⟩ := popdsK_ok h2
    exact ⟨a :: as, by simp [pOps, h1, h3], h4⟩
section
variable {H : Heap} {W : Nat → Prop} {β : List Nat} {T : List PV} {T' : List AV}
theorem pOp_rel {x : Operand} {p : PV} (h : pOp T x = some p) (r : TR H W β T T' x) : ∃ a, opd T' x = some a ∧ RelV H W β p a := by
  cases x with
  | tmp t => cases h; exact ⟨_, rfl, r⟩
  | const v =>
    simp only [pOp] at h
    split at h
    · rename_i a ha
      exact ⟨a, ha, constA_ok h⟩
    · cases h
  | global g => cases h
  | func f => cases h; exact ⟨_, rfl, .clo (.fn f)⟩
theorem pOps_rel : ∀ {xs : List Operand} {ps : List PV}, pOps T xs = some ps → (∀ x ∈ xs, TR H W β T T' x) → ∃ as, opds (opd T') xs = some as ∧ All2 (RelV H W β) ps as
  | [], _, h, _ => by cases h; exact ⟨[], rfl, .nil⟩
  | x :: xs, ps, h, r => by
    unfold pOps at h
    split at h
    · rename_i a as h1 h2
      cases h
      obtain ⟨b, q1, q2⟩ := pOp_rel h1 (r x (by simp))
      obtain ⟨bs, q3, q4⟩ := pOps_rel h2 fun y hy => r y (by simp [hy])
      exact ⟨b :: bs, by simp [opds, q1, q3], .cons q2 q4⟩
    · cases h
end
section
variable {H : Heap} {W : Nat → Prop} {β : List Nat} {a : AV}
theorem RelV.int_inv {k : IntKind} {n : Int} (h : RelV H W β (.int k n) a) : a = .int k n := by
  cases h with
  | clo h => cases h; rfl
theorem RelV.bool_inv {b : Bool} (h : RelV H W β (.bool b) a) : a = .bool b := by
  cases h with
  | clo h => cases h; rfl
theorem RelV.str_inv {s : ByteArray} (h : RelV H W β (.str s) a) : a = .str s := by
  cases h with
  | clo h => cases h; rfl
theorem RelV.nilp_inv (h : RelV H W β .nilp a) : a = .nilp := by
  cases h with
  | clo h => cases h; rfl
theorem RelV.nils_inv (h : RelV H W β .nils a) : a = .nils := by
  cases h with
  | clo h => cases h
  | nils => rfl
theorem RelV.fn_inv {f : Nat} (h : RelV H W β (.fn f) a) : a = .fn f [] [] := by
  cases h with
  | clo h => cases h; rfl
theorem RelV.own_inv {i o n c e : Nat} (h : RelV H W β (.own i o n c e) a) : ∃ b, β[i]? = some b ∧ a = .sl b o n c := by
  cases h with
  | clo h => cases h
  | own o n c e h => exact ⟨_, h, rfl⟩
theorem RelV.ownu_inv {i n e : Nat} (h : RelV H W β (.ownu i n e) a) : ∃ b, β[i]? = some b ∧ a = .slu b 0 n e := by
  cases h with
  | clo h => cases h
  | ownu n e h => exact ⟨_, h, rfl⟩
theorem RelV.ownq_inv {i o n e : Nat} (h : RelV H W β (.ownq i o n e) a) : ∃ b, β[i]? = some b ∧ a = .slu b o n e := by
  cases h with
  | clo h => cases h
  | ownq o n e h => exact ⟨_, h, rfl⟩
theorem RelV.optr_inv {i o : Nat} (h : RelV H W β (.optr i o) a) : ∃ b, β[i]? = some b ∧ a = .ptr b o := by
  cases h with
  | clo h => cases h
  | optr o h => exact ⟨_, h, rfl⟩
theorem RelV.lptr_inv {cs : List PV} (h : RelV H W β (.lptr cs) a) : ∃ b o rw ty bcs, a = .ptr b o ∧ ¬ W b ∧ H.get b = .cells rw ty bcs ∧ o + cs.length ≤ bcs.length ∧ All2 (RelC H W) cs ((bcs.drop o).take cs.length) := by
  cases h with
  | clo h => cases h with
    | lptr h1 h2 h3 h4 => exact ⟨_, _, _, _, _, rfl, h1, h2, h3, h4⟩
theorem RelV.bptr_inv {cs : List PV} (h : RelV H W β (.bptr cs) a) : ∃ b o rw ty bcs, a = .ptr b o ∧ (∀ i : Nat, β[i]? ≠ some b) ∧ H.get b = .cells rw ty bcs ∧ o + cs.length ≤ bcs.length ∧ All2 (RelC H W) cs ((bcs.drop o).take cs.length) := by
  cases h with
  | clo h => cases h
  | bptr h1 h2 h3 h4 => exact ⟨_, _, _, _, _, rfl, h1, h2, h3, h4⟩
theorem RelV.agg_inv {cs : List PV} (h : RelV H W β (.agg cs) a) : ∃ as, a = .agg as ∧ All2 (RelV H W β) cs as := by
  cases h with
  | clo h => cases h with
    | agg h => exact ⟨_, rfl, RelVs.clo h⟩
  | agg h => exact ⟨_, rfl, h⟩
theorem RelV.tup_inv {cs : List PV} (h : RelV H W β (.tup cs) a) : ∃ as, a = .tup as ∧ All2 (RelV H W β) cs as := by
  cases h with
  | clo h => cases h with
    | tup h => exact ⟨_, rfl, RelVs.clo h⟩
  | tup h => exact ⟨_, rfl, h⟩
theorem RelV.lst_inv {n : Nat} {cs : List PV} (h : RelV H W β (.lst n cs) a) : RelC H W (.lst n cs) a := by
  cases h with
  | clo h => exact h
end
def partP (i : TI) (cs : List PV) (o : Nat) : Option PV :=
  match i.desc with
  | .struct _ | .array _ _ => if o + i.size ≤ cs.length then some (.agg ((cs.drop o).take i.size)) else none
  | _ => cs[o]?
theorem partP_ok {C : Ctx} {t : TypeId} {i : TI} (ht : C.ty t = some i) {R : PV → AV → Prop} (hagg : ∀ cs as, All2 R cs as → R (.agg cs) (.agg as)) {cs : List PV} {as : List AV} (h : All2 R cs as) {o : Nat} {r : PV} (hp : partP i cs o = some r) :
    ∃ v, partE C t as o = some v ∧ R r v := by
  have hl := h.length
  unfold partP at hp
  unfold partE
  rw [ht]
  simp only
  split at hp
  · split at hp
    · cases hp
      rename_i hd hle
      simp only [hd]
      exact ⟨_, by rw [if_pos (by omega)], hagg _ _ ((h.drop o).take _)⟩
    · cases hp
  · split at hp
    · cases hp
      rename_i hd hle
      simp only [hd]
      exact ⟨_, by rw [if_pos (by omega)], hagg _ _ ((h.drop o).take _)⟩
    · cases hp
  · rename_i n1 n2
    obtain ⟨v, h1, h2⟩ := h.get hp
    refine ⟨v, ?_, h2⟩
    split
    · rename_i hd; exact absurd hd (n1 _)
    · rename_i hd; exact absurd hd (n2 _ _)
    · exact h1
def toPK (K : PV → Prop) : AV → Prop
  | .int k n => K (.int k n)
  | .bool b => K (.bool b)
  | .str s => K (.str s)
  | _ => False
theorem toPK_ok {K : PV → Prop} {v : AV} (h : toPK K v) : ∃ r, K r ∧ ∀ (H : Heap) (W : Nat → Prop) (β : List Nat), RelV H W β r v := by
  cases v <;> simp only [toPK] at h <;> try exact h.elim
  · exact ⟨_, h, fun _ _ _ => .clo (.int _ _)⟩
  · exact ⟨_, h, fun _ _ _ => .clo (.bool _)⟩
  · exact ⟨_, h, fun _ _ _ => .clo (.str _)⟩
def optK (K : AV → Prop) (x : Option AV) : Prop :=
  match x with
  | some v => K v
  | none => False
theorem optK_ok {K : AV → Prop} {x : Option AV} (h : optK K x) : ∃ v, x = some v ∧ K v := by
  cases x with
  | none => exact h.elim
  | some v => exact ⟨v, rfl, h⟩
def pstrK (op : BinOp) (s u : ByteArray) (K : AV → Prop) : Prop :=
  match op with
  | .eql => ∃ β, (s.toList == u.toList) = β ∧ K (.bool β)
  | .neq => ∃ β, (s.toList == u.toList) = β ∧ K (.bool (!β))
  | op => ∃ v, strBin op s u = some v ∧ K v
theorem pstrK_ok {op : BinOp} {s u : ByteArray} {K : AV → Prop} (h : pstrK op s u K) : ∃ v, strBin op s u = some v ∧ K v := by
  unfold pstrK at h
  split at h
  · obtain ⟨β, h1, h2⟩ := h
    exact ⟨_, by simp only [strBin, h1], h2⟩
  · obtain ⟨β, h1, h2⟩ := h
    exact ⟨_, by simp only [strBin, h1], h2⟩
  · exact h
def peqI : List PV → List PV → Option Bool
  | [], [] => some true
  | .int k m :: as, .int k' n :: bs => match peqI as bs with
    | some r => if k = k' then some (m == n && r) else none
    | none => none
  | _, _ => none
def pbinK (C : Ctx) (op : BinOp) (t : TypeId) (a b : PV) (K : AV → Prop) : Prop :=
  match a, b with
  | .int k m, .int k' n => match isShift op with
    | true => ∃ v, shiftE op k m n = some v ∧ K v
    | false => match k, k' with
      | .i64, .i64 => vInt op m n K
      | k, k' => k = k' ∧ ∃ v, intBin op k m n = some v ∧ K v
  | .str s, .str u => pstrK op s u K
  | .bool p, .bool q => optK K (eqIf C .bool op t (p == q))
  | .nilp, .nilp => optK K (eqIf C .ptr op t true)
  | .nilp, .optr _ _ => optK K (eqIf C .ptr op t false)
  | .nilp, .lptr _ => optK K (eqIf C .ptr op t false)
  | .optr _ _, .nilp => optK K (eqIf C .ptr op t false)
  | .lptr _, .nilp => optK K (eqIf C .ptr op t false)
  | .bptr _, .nilp => optK K (eqIf C .ptr op t false)
  | .nils, .nils => optK K (eqIf C .slice op t true)
  | .own _ _ _ _ _, .nils => optK K (eqIf C .slice op t false)
  | .ownu _ _ _, .nils => optK K (eqIf C .slice op t false)
  | .lst n _, .nils => n ≠ 0 ∧ optK K (eqIf C .slice op t false)
  | .agg ps, .agg qs => ∃ β, (peqI ps qs = some β ∧ eqOk C t ps.length = true) ∧ match op with
    | .eql => (match β with
      | true => K (.bool true)
      | false => K (.bool false))
    | .neq => (match β with
      | true => K (.bool false)
      | false => K (.bool true))
    | _ => False
  | _, _ => False
theorem peqI_ok {H : Heap} {W : Nat → Prop} {β : List Nat} : ∀ {ps qs : List PV} {as bs : List AV} {r : Bool}, peqI ps qs = some r → All2 (RelV H W β) ps as → All2 (RelV H W β) qs bs → eqInts as bs = some r
  | [], [], _, _, r, h, h1, h2 => by cases h1; cases h2; exact h
  | [], _ :: _, _, _, _, h, _, _ => by simp [peqI] at h
  | p :: ps, [], _, _, _, h, _, _ => by cases p <;> simp [peqI] at h
  | p :: ps, q :: qs, _, _, r, h, h1, h2 => by
    cases h1 with
    | cons a1 a2 =>
      cases h2 with
      | cons b1 b2 =>
        unfold peqI at h
        split at h
        · cases ‹_ :: _ = []›
        · rename_i k m ps2 k' n qs2 e1 e2
          cases e1; cases e2
          split at h
          · rename_i r2 hr
            split at h
            · rename_i hk
              cases h
              rw [a1.int_inv, b1.int_inv]
              simp only [eqInts, hk, if_true, peqI_ok hr a2 b2]
            · cases h
          · cases h
        · cases h
theorem pbinK_ok {C : Ctx} {op : BinOp} {t : TypeId} {a b : PV} {K : AV → Prop} (h : pbinK C op t a b K) :
    ∃ v, K v ∧ ∀ (H : Heap) (W : Nat → Prop) (β : List Nat) (x y : Operand) (a' b' : AV), RelV H W β a a' → RelV H W β b b' → binE C op t x y a' b' = some v := by
  unfold pbinK at h
  split at h
  · rename_i k m k' n
    split at h
    · rename_i hs
      obtain ⟨v, h1, h2⟩ := h
      refine ⟨v, h2, fun H W β x y a' b' ha hb => ?_⟩
      rw [ha.int_inv, hb.int_inv]
      simp only [binE, hs, if_true, h1]
    · rename_i hs
      split at h
      · obtain ⟨v, h1, h2⟩ := vInt_ok h
        refine ⟨v, h2, fun H W β x y a' b' ha hb => ?_⟩
        rw [ha.int_inv, hb.int_inv]
        simp [binE, hs, h1]
      · obtain ⟨rfl, v, h1, h2⟩ := h
        refine ⟨v, h2, fun H W β x y a' b' ha hb => ?_⟩
        rw [ha.int_inv, hb.int_inv]
        simp [binE, hs, h1]
  · obtain ⟨v, h1, h2⟩ := pstrK_ok h
    refine ⟨v, h2, fun H W β x y a' b' ha hb => ?_⟩
    rw [ha.str_inv, hb.str_inv]
    exact h1
  · obtain ⟨v, h1, h2⟩ := optK_ok h
    refine ⟨v, h2, fun H W β x y a' b' ha hb => ?_⟩
    rw [ha.bool_inv, hb.bool_inv]
    exact h1
  · obtain ⟨v, h1, h2⟩ := optK_ok h
    refine ⟨v, h2, fun H W β x y a' b' ha hb => ?_⟩
    rw [ha.nilp_inv, hb.nilp_inv]
    exact h1
  · obtain ⟨v, h1, h2⟩ := optK_ok h
    refine ⟨v, h2, fun H W β x y a' b' ha hb => ?_⟩
    obtain ⟨b, -, rfl⟩ := hb.optr_inv
    rw [ha.nilp_inv]
    exact h1
  · obtain ⟨v, h1, h2⟩ := optK_ok h
    refine ⟨v, h2, fun H W β x y a' b' ha hb => ?_⟩
    obtain ⟨b, o, _, _, _, rfl, -⟩ := hb.lptr_inv
    rw [ha.nilp_inv]
    exact h1
  · obtain ⟨v, h1, h2⟩ := optK_ok h
    refine ⟨v, h2, fun H W β x y a' b' ha hb => ?_⟩
    obtain ⟨b, -, rfl⟩ := ha.optr_inv
    rw [hb.nilp_inv]
    exact h1
  · obtain ⟨v, h1, h2⟩ := optK_ok h
    refine ⟨v, h2, fun H W β x y a' b' ha hb => ?_⟩
    obtain ⟨b, o, _, _, _, rfl, -⟩ := ha.lptr_inv
    rw [hb.nilp_inv]
    exact h1
  · obtain ⟨v, h1, h2⟩ := optK_ok h
    refine ⟨v, h2, fun H W β x y a' b' ha hb => ?_⟩
    obtain ⟨b, o, _, _, _, rfl, -⟩ := ha.bptr_inv
    rw [hb.nilp_inv]
    exact h1
  · obtain ⟨v, h1, h2⟩ := optK_ok h
    refine ⟨v, h2, fun H W β x y a' b' ha hb => ?_⟩
    rw [ha.nils_inv, hb.nils_inv]
    exact h1
  · obtain ⟨v, h1, h2⟩ := optK_ok h
    refine ⟨v, h2, fun H W β x y a' b' ha hb => ?_⟩
    obtain ⟨b, -, rfl⟩ := ha.own_inv
    rw [hb.nils_inv]
    exact h1
  · obtain ⟨v, h1, h2⟩ := optK_ok h
    refine ⟨v, h2, fun H W β x y a' b' ha hb => ?_⟩
    obtain ⟨b, -, rfl⟩ := ha.ownu_inv
    rw [hb.nils_inv]
    exact h1
  · obtain ⟨hn, h⟩ := h
    obtain ⟨v, h1, h2⟩ := optK_ok h
    refine ⟨v, h2, fun H W β x y a' b' ha hb => ?_⟩
    rw [hb.nils_inv]
    cases ha with
    | clo h => cases h with
      | lnil => exact absurd rfl hn
      | lsle => exact absurd rfl hn
      | sl => exact h1
      | slu => exact h1
  · rename_i ps qs
    obtain ⟨r, ⟨h1, h2⟩, h3⟩ := h
    have key : ∀ (H : Heap) (W : Nat → Prop) (β : List Nat) (x y : Operand) (a' b' : AV) (v : AV), eqOp op r = some v → RelV H W β (.agg ps) a' → RelV H W β (.agg qs) b' → binE C op t x y a' b' = some v := fun H W β x y a' b' v e ha hb => by
      obtain ⟨as, rfl, ga⟩ := ha.agg_inv
      obtain ⟨bs, rfl, gb⟩ := hb.agg_inv
      simp only [binE, eqStr]
      rw [← ga.length, h2]
      simp only [peqI_ok h1 ga gb]
      exact e
    split at h3
    · cases r
      · exact ⟨_, h3, fun H W β x y a' b' ha hb => key H W β x y a' b' _ rfl ha hb⟩
      · exact ⟨_, h3, fun H W β x y a' b' ha hb => key H W β x y a' b' _ rfl ha hb⟩
    · cases r
      · exact ⟨_, h3, fun H W β x y a' b' ha hb => key H W β x y a' b' _ rfl ha hb⟩
      · exact ⟨_, h3, fun H W β x y a' b' ha hb => key H W β x y a' b' _ rfl ha hb⟩
    · exact h3.elim
  · exact h.elim
end Go.PI
/- PLAIN VALUES: operations that ask nothing of memory, all of them. -/
namespace Go.PI
def phiK (T : List PV) (hi : Option Operand) (len cap : Nat) (K : Nat → Prop) : Prop :=
  match hi with
  | none => K len
  | some y => popdK T y fun v => match v with
    | .int _ i => (0 ≤ i ∧ i ≤ cap) ∧ K i.toNat
    | _ => False
def bndE (ρ : Operand → Option AV) (x : Option Operand) (d y : Nat) : Option Nat :=
  match x with
  | some h => bound (ρ h) y
  | none => some d
theorem phiK_ok {T : List PV} {hi : Option Operand} {len cap : Nat} {K : Nat → Prop} (h : phiK T hi len cap K) (hlc : len ≤ cap) :
    ∃ n, n ≤ cap ∧ K n ∧ ∀ (H : Heap) (W : Nat → Prop) (β : List Nat) (T' : List AV), (∀ y ∈ hi.toList, TR H W β T T' y) → ∀ cap', cap ≤ cap' → bndE (opd T') hi len cap' = some n := by
  cases hi with
  | none => exact ⟨len, hlc, h, fun _ _ _ _ _ _ _ => rfl⟩
  | some y =>
    obtain ⟨p, h1, h2⟩ := popdK_ok (show popdK T y _ from h)
    split at h2
    · rename_i k i
      refine ⟨i.toNat, by omega, h2.2, fun H W β T' hr cap' hc => ?_⟩
      obtain ⟨a, q1, q2⟩ := pOp_rel h1 (hr y (by simp))
      have := q2.int_inv
      subst this
      simp only [bndE, bound, q1]
      rw [if_pos ⟨h2.1.1, by omega⟩]
    · exact h2.elim
def pidxK (ei : TI) (a n : PV) (K : PV → Prop) : Prop :=
  match n with
  | .int _ m => match a with
    | .lst l cs => ((0 ≤ m ∧ m < l) ∧ m.toNat * ei.size ≤ cs.length) ∧ K (.lptr (cs.drop (m.toNat * ei.size)))
    | .own j o l _ _ => (0 ≤ m ∧ m < l) ∧ K (.optr j (o + m.toNat * ei.size))
    | .ownu j l _ => (0 ≤ m ∧ m < l) ∧ K (.optr j (0 + m.toNat * ei.size))
    | .ownq j o l _ => (0 ≤ m ∧ m < l) ∧ K (.optr j (o + m.toNat * ei.size))
    | _ => False
  | _ => False
def paidxK (ei : TI) (l : Nat) (a n : PV) (K : PV → Prop) : Prop :=
  match n with
  | .int _ m => match a with
    | .lptr cs => ((0 ≤ m ∧ m < l) ∧ m.toNat * ei.size ≤ cs.length) ∧ K (.lptr (cs.drop (m.toNat * ei.size)))
    | .bptr cs => ((0 ≤ m ∧ m < l) ∧ m.toNat * ei.size ≤ cs.length) ∧ K (.bptr (cs.drop (m.toNat * ei.size)))
    | .optr j o => (0 ≤ m ∧ m < l) ∧ K (.optr j (o + m.toNat * ei.size))
    | _ => False
  | _ => False
def pslK (T : List PV) (ei : TI) (a : PV) (lo hi : Option Operand) (K : PV → Prop) : Prop :=
  match a with
  | .nils => phiK T hi 0 0 fun h => phiK T lo 0 h fun _ => K .nils
  | .lst n cs => cs.length = n * ei.size ∧ phiK T hi n n fun h => phiK T lo 0 h fun l => (h - l = 0 → ei.size = 1) ∧ ∃ cs', (cs.drop (l * ei.size)).take ((h - l) * ei.size) = cs' ∧ K (.lst (h - l) cs')
  | .own j o n c e => n ≤ c ∧ phiK T hi n c fun h => phiK T lo 0 h fun l => ∃ o', (if c = l then o else o + l * ei.size) = o' ∧ K (.own j o' (h - l) (c - l) e)
  | .ownu j n e => match lo with
    | none => phiK T hi n n fun h => K (.ownu j h e)
    | some _ => e = ei.size ∧ phiK T hi n n fun h => phiK T lo 0 h fun l => K (.ownq j (0 + l * ei.size) (h - l) e)
  | .ownq j o n e => e = ei.size ∧ phiK T hi n n fun h => phiK T lo 0 h fun l => K (.ownq j (o + l * ei.size) (h - l) e)
  | _ => False
def paslK (T : List PV) (ei : TI) (n : Nat) (a : PV) (lo hi : Option Operand) (K : PV → Prop) : Prop :=
  match a with
  | .optr j o => phiK T hi n n fun h => phiK T lo 0 h fun l => ∃ o', (if n = l then o else o + l * ei.size) = o' ∧ K (.own j o' (h - l) (n - l) ei.size)
  | .lptr cs => n * ei.size ≤ cs.length ∧ phiK T hi n n fun h => phiK T lo 0 h fun l => ∃ cs', (cs.drop (l * ei.size)).take ((h - l) * ei.size) = cs' ∧ K (.lst (h - l) cs')
  | _ => False
def pbuiltK (C : Ctx) (b : Builtin) (ts : List TypeId) (ps : List PV) (K : PV → Prop) : Prop :=
  match b with
  | .len => match ts, ps with
    | t :: _, x :: _ => match C.ty t with
      | some { desc := .string, .. } => match x with
        | .str s => K (.int .i64 s.size)
        | _ => False
      | some { desc := .slice _, .. } => match x with
        | .nils => K (.int .i64 0)
        | .lst n _ => K (.int .i64 n)
        | .own _ _ n _ _ => K (.int .i64 n)
        | .ownu _ n _ => K (.int .i64 n)
        | .ownq _ _ n _ => K (.int .i64 n)
        | _ => False
      | some { desc := .array n _, .. } => K (.int .i64 n)
      | _ => False
    | _, _ => False
  | .cap => match ts, ps with
    | t :: _, x :: _ => match C.ty t with
      | some { desc := .slice _, .. } => match x with
        | .nils => K (.int .i64 0)
        | .own _ _ _ cp _ => K (.int .i64 cp)
        | _ => False
      | _ => False
    | _, _ => False
  | .max => match ps with
    | [.int .i64 m, .int .i64 n] => K (.int .i64 (max m n))
    | _ => False
  | .min => match ps with
    | [.int .i64 m, .int .i64 n] => K (.int .i64 (min m n))
    | _ => False
  | _ => False
def purK (C : Ctx) (T : List PV) (op : Op) (K : PV → Prop) : Prop :=
  match op with
  | .move x => popdK T x K
  | .assign x => popdK T x K
  | .pick c a b => popdK T c fun c => match c with
    | .bool true => popdK T a K
    | .bool false => popdK T b K
    | _ => False
  | .binOp op t x y _ => popdK T x fun a => popdK T y fun b => pbinK C op t a b (toPK K)
  | .unOp .neg _ x => popdK T x fun a => match a with
    | .int .i64 n => In64 (0 - n) ∧ K (.int .i64 (0 - n))
    | _ => False
  | .unOp .not _ x => popdK T x fun a => match a with
    | .bool true => K (.bool false)
    | .bool false => K (.bool true)
    | _ => False
  | .extract t i => popdK T t fun a => match a with
    | .tup vs => match decide (i < vs.length) with
      | true => pgetK vs i K
      | false => False
    | _ => False
  | .nilCheck x => popdK T x fun a => match a with
    | .optr i o => K (.optr i o)
    | .lptr cs => K (.lptr cs)
    | .bptr cs => K (.bptr cs)
    | .fn f => K (.fn f)
    | _ => False
  | .convert s d x => popdK T x fun a => match C.ty s, C.ty d with
    | some _, some { desc := .int k, .. } => match a with
      | .int _ n => K (.int k (k.wrap n))
      | _ => False
    | some { desc := .slice _, .. }, some { desc := .string, .. } => False
    | some _, some { desc := .string, .. } => match a with
      | .str s => K (.str s)
      | _ => False
    | _, _ => False
  | .fieldAddr s x f => popdK T x fun a => match C.ty s with
    | some { desc := .struct fs, .. } => match fs[f]? with
      | some fd => match C.ty fd.type with
        | some i => match decide (i.size = 0) with
          | true => False
          | false => match a with
            | .optr j o => K (.optr j (o + fd.offset))
            | .lptr cs => fd.offset ≤ cs.length ∧ K (.lptr (cs.drop fd.offset))
            | .bptr cs => fd.offset ≤ cs.length ∧ K (.bptr (cs.drop fd.offset))
            | _ => False
        | none => False
      | none => False
    | _ => False
  | .field t x f => popdK T x fun a => match C.ty t with
    | some { desc := .struct fs, .. } => match fs[f]? with
      | some fd => match C.ty fd.type with
        | some i => match a with
          | .agg cs => ∃ r, partP i cs fd.offset = some r ∧ K r
          | _ => False
        | none => False
      | none => False
    | _ => False
  | .indexAddr t x i => popdK T x fun a => popdK T i fun n => match C.ty t with
    | some { desc := .slice e, .. } => match C.ty e with
      | some ei => pidxK ei a n K
      | none => False
    | some { desc := .array l e, .. } => match C.ty e with
      | some ei => paidxK ei l a n K
      | none => False
    | _ => False
  | .index t x i => popdK T x fun a => popdK T i fun n => match C.ty t with
    | some { desc := .array l e, .. } => match C.ty e with
      | some ei => match a, n with
        | .agg cs, .int _ m => (0 ≤ m ∧ m < l) ∧ ∃ r, partP ei cs (m.toNat * ei.size) = some r ∧ K r
        | _, _ => False
      | none => False
    | some { desc := .string, .. } => match a, n with
      | .str s, .int _ m => 0 ≤ m ∧ ∃ b, s[m.toNat]? = some b ∧ K (.int .u8 b.toNat)
      | _, _ => False
    | _ => False
  | .slice t x lo hi none => popdK T x fun a => match C.ty t with
    | some { desc := .string, .. } => match a with
      | .str s => phiK T hi s.size s.size fun h => phiK T lo 0 h fun l => K (.str (s.extract l h))
      | _ => False
    | some { desc := .slice e, .. } => match C.ty e with
      | some ei => pslK T ei a lo hi K
      | none => False
    | some { desc := .array n e, .. } => match C.ty e with
      | some ei => paslK T ei n a lo hi K
      | none => False
    | _ => False
  | .makeFunc (.func f) first captured => match first.toList, captured.toList with
    | [], [] => K (.fn f)
    | [], xs => popdsK T xs fun cs => K (.fnc f cs)
    | _, _ => False
  | .call { callee := .builtin b, args, argTypes } => popdsK T args.toList fun ps => pbuiltK C b argTypes.toList ps K
  | _ => False
section
variable {C : Ctx} {H : Heap} {W : Nat → Prop} {β : List Nat}
theorem drop_rel {R : PV → AV → Prop} {cs : List PV} {bcs : List AV} {o k : Nat} (hk : k ≤ cs.length) (h : All2 R cs ((bcs.drop o).take cs.length)) : All2 R (cs.drop k) ((bcs.drop (o + k)).take (cs.drop k).length) := by
  have := h.drop k
  rw [List.drop_take, List.drop_drop] at this
  rw [List.length_drop]
  exact this
theorem take_rel {R : PV → AV → Prop} {cs : List PV} {bcs : List AV} {o k : Nat} (h : All2 R cs ((bcs.drop o).take cs.length)) : All2 R (cs.take k) ((bcs.drop o).take (cs.take k).length) := by
  have := h.take k
  rw [List.take_take] at this
  rw [List.length_take]
  exact this
theorem pidx_ok {t e : TypeId} {ti ei : TI} {a n : PV} {K : PV → Prop} (ht : C.ty t = some ti) (hd : ti.desc = .slice e) (he : C.ty e = some ei) (h : pidxK ei a n K) :
    ∃ r, K r ∧ ∀ (H : Heap) (W : Nat → Prop) (β : List Nat) (a' n' : AV) (ρ : Operand → Option AV) (x i : Operand), ρ x = some a' → ρ i = some n' → RelV H W β a a' → RelV H W β n n' → ∃ v, pureE C ρ (.indexAddr t x i) = some v ∧ RelV H W β r v := by
  obtain ⟨desc, sz, by', z⟩ := ti
  simp only at hd
  subst hd
  unfold pidxK at h
  split at h
  · rename_i k m
    split at h
    · rename_i l cs
      obtain ⟨⟨h1, h2⟩, h3⟩ := h
      refine ⟨_, h3, fun H W β a' n' ρ x i hx hi ra rn => ?_⟩
      have := rn.int_inv
      subst this
      have hra := ra.lst_inv
      cases hra with
      | lnil => simp at h1; omega
      | lsle => simp at h1; omega
      | sl q1 q2 q3 q4 q5 =>
        refine ⟨_, by simp only [pureE, ht, hx, hi, he]; rw [if_pos h1], .clo (.lptr q1 q2 ?_ (drop_rel h2 q5))⟩
        simp; omega
      | slu q1 q2 q3 q4 q5 =>
        refine ⟨_, by simp only [pureE, ht, hx, hi, he]; rw [if_pos h1], .clo (.lptr q1 q2 ?_ (drop_rel h2 q5))⟩
        simp; omega
    · refine ⟨_, h.2, fun H W β a' n' ρ x i hx hi ra rn => ?_⟩
      have := rn.int_inv
      subst this
      obtain ⟨b, hb, rfl⟩ := ra.own_inv
      exact ⟨_, by simp only [pureE, ht, hx, hi, he]; rw [if_pos h.1], .optr _ hb⟩
    · refine ⟨_, h.2, fun H W β a' n' ρ x i hx hi ra rn => ?_⟩
      have := rn.int_inv
      subst this
      obtain ⟨b, hb, rfl⟩ := ra.ownu_inv
      exact ⟨_, by simp only [pureE, ht, hx, hi, he]; rw [if_pos h.1], .optr _ hb⟩
    · refine ⟨_, h.2, fun H W β a' n' ρ x i hx hi ra rn => ?_⟩
      have := rn.int_inv
      subst this
      obtain ⟨b, hb, rfl⟩ := ra.ownq_inv
      exact ⟨_, by simp only [pureE, ht, hx, hi, he]; rw [if_pos h.1], .optr _ hb⟩
    · exact h.elim
  · exact h.elim
theorem paidx_ok {t e : TypeId} {l : Nat} {ti ei : TI} {a n : PV} {K : PV → Prop} (ht : C.ty t = some ti) (hd : ti.desc = .array l e) (he : C.ty e = some ei) (h : paidxK ei l a n K) :
    ∃ r, K r ∧ ∀ (H : Heap) (W : Nat → Prop) (β : List Nat) (a' n' : AV) (ρ : Operand → Option AV) (x i : Operand), ρ x = some a' → ρ i = some n' → RelV H W β a a' → RelV H W β n n' → ∃ v, pureE C ρ (.indexAddr t x i) = some v ∧ RelV H W β r v := by
  obtain ⟨desc, sz, by', z⟩ := ti
  simp only at hd
  subst hd
  unfold paidxK at h
  split at h
  · rename_i k m
    split at h
    · rename_i cs
      obtain ⟨⟨h1, h2⟩, h3⟩ := h
      refine ⟨_, h3, fun H W β a' n' ρ x i hx hi ra rn => ?_⟩
      have := rn.int_inv
      subst this
      obtain ⟨b, o, _, _, _, rfl, q1, q2, q3, q4⟩ := ra.lptr_inv
      refine ⟨_, by simp only [pureE, ht, hx, hi, he]; rw [if_pos h1], .clo (.lptr q1 q2 ?_ (drop_rel h2 q4))⟩
      simp; omega
    · rename_i cs
      obtain ⟨⟨h1, h2⟩, h3⟩ := h
      refine ⟨_, h3, fun H W β a' n' ρ x i hx hi ra rn => ?_⟩
      have := rn.int_inv
      subst this
      obtain ⟨b, o, _, _, _, rfl, q1, q2, q3, q4⟩ := ra.bptr_inv
      refine ⟨_, by simp only [pureE, ht, hx, hi, he]; rw [if_pos h1], .bptr q1 q2 ?_ (drop_rel h2 q4)⟩
      simp; omega
    · refine ⟨_, h.2, fun H W β a' n' ρ x i hx hi ra rn => ?_⟩
      have := rn.int_inv
      subst this
      obtain ⟨b, hb, rfl⟩ := ra.optr_inv
      exact ⟨_, by simp only [pureE, ht, hx, hi, he]; rw [if_pos h.1], .optr _ hb⟩
    · exact h.elim
  · exact h.elim
section
variable {t e : TypeId} {sz by' : Nat} {z : AV} {ei : TI} {ρ : Operand → Option AV} {x : Operand} {lo hi : Option Operand}
theorem slice_sl {b o len cap : Nat} (ht : C.ty t = some { desc := .slice e, size := sz, bytes := by', zero := z }) (he : C.ty e = some ei) (hx : ρ x = some (.sl b o len cap)) {h l : Nat} (e1 : bndE ρ hi len cap = some h) (e2 : bndE ρ lo 0 h = some l) :
    pureE C ρ (.slice t x lo hi none) = some (.sl b (if cap = l then o else o + l * ei.size) (h - l) (cap - l)) := by
  cases hi <;> cases lo <;> simp only [bndE] at e1 e2 <;> simp only [pureE, ht, hx, he, e1, e2] <;> (try cases e1) <;> (try cases e2) <;> first | rfl | (simp only [e1, e2]; done) | (simp only [e2]; done) | (simp [e1, e2]; done) | (simp [e2]; done) | (simp; done)
theorem slice_slu {b o len esz : Nat} (ht : C.ty t = some { desc := .slice e, size := sz, bytes := by', zero := z }) (he : C.ty e = some ei) (hx : ρ x = some (.slu b o len esz)) {h l : Nat} (e1 : bndE ρ hi len len = some h) (e2 : bndE ρ lo 0 h = some l) :
    pureE C ρ (.slice t x lo hi none) = if esz = ei.size then some (.slu b (o + l * ei.size) (h - l) esz) else if h = l ∧ 0 < l then some .sle else if l = 0 then some (.slu b o h esz) else none := by
  cases hi <;> cases lo <;> simp only [bndE] at e1 e2 <;> simp only [pureE, ht, hx, he, e1, e2] <;> (try cases e1) <;> (try cases e2) <;> first | rfl | (simp only [e1, e2]; done) | (simp only [e2]; done) | (simp [e1, e2]; done) | (simp [e2]; done) | (simp; done)
theorem slice_nils (ht : C.ty t = some { desc := .slice e, size := sz, bytes := by', zero := z }) (he : C.ty e = some ei) (hx : ρ x = some .nils) {h l : Nat} (e1 : bndE ρ hi 0 0 = some h) (e2 : bndE ρ lo 0 h = some l) :
    pureE C ρ (.slice t x lo hi none) = some .nils := by
  cases hi <;> cases lo <;> simp only [bndE] at e1 e2 <;> simp only [pureE, ht, hx, he, e1, e2] <;> (try cases e1) <;> (try cases e2) <;> first | rfl | (simp only [e1, e2]; done) | (simp only [e2]; done) | (simp [e1, e2]; done) | (simp [e2]; done) | (simp; done)
theorem slice_sle (ht : C.ty t = some { desc := .slice e, size := sz, bytes := by', zero := z }) (he : C.ty e = some ei) (hx : ρ x = some .sle) {h l : Nat} (e1 : bndE ρ hi 0 0 = some h) (e2 : bndE ρ lo 0 h = some l) :
    pureE C ρ (.slice t x lo hi none) = some .sle := by
  cases hi <;> cases lo <;> simp only [bndE] at e1 e2 <;> simp only [pureE, ht, hx, he, e1, e2] <;> (try cases e1) <;> (try cases e2) <;> first | rfl | (simp only [e1, e2]; done) | (simp only [e2]; done) | (simp [e1, e2]; done) | (simp [e2]; done) | (simp; done)
theorem slice_arr {b o n : Nat} (ht : C.ty t = some { desc := .array n e, size := sz, bytes := by', zero := z }) (he : C.ty e = some ei) (hx : ρ x = some (.ptr b o)) {h l : Nat} (e1 : bndE ρ hi n n = some h) (e2 : bndE ρ lo 0 h = some l) :
    pureE C ρ (.slice t x lo hi none) = some (.sl b (if n = l then o else o + l * ei.size) (h - l) (n - l)) := by
  cases hi <;> cases lo <;> simp only [bndE] at e1 e2 <;> simp only [pureE, ht, hx, he, e1, e2] <;> (try cases e1) <;> (try cases e2) <;> first | rfl | (simp only [e1, e2]; done) | (simp only [e2]; done) | (simp [e1, e2]; done) | (simp [e2]; done) | (simp; done)
theorem slice_str {s : ByteArray} (ht : C.ty t = some { desc := .string, size := sz, bytes := by', zero := z }) (hx : ρ x = some (.str s)) {h l : Nat} (e1 : bndE ρ hi s.size s.size = some h) (e2 : bndE ρ lo 0 h = some l) :
    pureE C ρ (.slice t x lo hi none) = some (.str (s.extract l h)) := by
  cases hi <;> cases lo <;> simp only [bndE] at e1 e2 <;> simp only [pureE, ht, hx, e1, e2] <;> (try cases e1) <;> (try cases e2) <;> first | rfl | (simp only [e1, e2]; done) | (simp only [e2]; done) | (simp [e1, e2]; done) | (simp [e2]; done) | (simp; done)
end
theorem psl_ok {t e : TypeId} {T : List PV} {ti ei : TI} {a : PV} {lo hi : Option Operand} {K : PV → Prop} (ht : C.ty t = some ti) (hd : ti.desc = .slice e) (he : C.ty e = some ei) (h : pslK T ei a lo hi K) :
    ∃ r, K r ∧ ∀ (H : Heap) (W : Nat → Prop) (β : List Nat) (a' : AV) (T' : List AV) (x : Operand), opd T' x = some a' → (∀ y ∈ lo.toList ++ hi.toList, TR H W β T T' y) → RelV H W β a a' → ∃ v, pureE C (opd T') (.slice t x lo hi none) = some v ∧ RelV H W β r v := by
  obtain ⟨desc, sz, by', z⟩ := ti
  simp only at hd
  subst hd
  unfold pslK at h
  split at h
  · obtain ⟨h1, l1, h2, g1⟩ := phiK_ok h (Nat.le_refl _)
    obtain ⟨h3, l2, h4, g2⟩ := phiK_ok h2 (Nat.zero_le _)
    refine ⟨_, h4, fun H W β a' T' x hx hr ra => ?_⟩
    have := ra.nils_inv
    subst this
    have e1 := g1 H W β T' (fun y hy => hr y (by simp at hy ⊢; exact .inr hy)) 0 (Nat.le_refl _)
    have e2 := g2 H W β T' (fun y hy => hr y (by simp at hy ⊢; exact .inl hy)) h1 (Nat.le_refl _)
    exact ⟨.nils, slice_nils ht he hx e1 e2, .nils⟩
  · rename_i n cs
    obtain ⟨hl, h⟩ := h
    obtain ⟨h1, l1, h2, g1⟩ := phiK_ok h (Nat.le_refl _)
    obtain ⟨h3, l2, h4, g2⟩ := phiK_ok h2 (Nat.zero_le _)
    obtain ⟨hz1, cs', rfl, h5⟩ := h4
    refine ⟨_, h5, fun H W β a' T' x hx hr ra => ?_⟩
    have e1 := fun cap' hc => g1 H W β T' (fun y hy => hr y (by simp at hy ⊢; exact .inr hy)) cap' hc
    have e2 := g2 H W β T' (fun y hy => hr y (by simp at hy ⊢; exact .inl hy)) h1 (Nat.le_refl _)
    have m1 : h3 * ei.size + (h1 - h3) * ei.size = h1 * ei.size := by rw [← Nat.add_mul]; congr 1; omega
    have m2 : h1 * ei.size ≤ n * ei.size := Nat.mul_le_mul_right _ l1
    have hlen : ((cs.drop (h3 * ei.size)).take ((h1 - h3) * ei.size)).length = (h1 - h3) * ei.size := by simp; omega
    have hra := ra.lst_inv
    cases hra with
    | lnil =>
      have z1 : h1 = 0 := by omega
      have z3 : h3 = 0 := by omega
      subst z1; subst z3
      refine ⟨.nils, ?_, ?_⟩
      · exact slice_nils ht he hx (e1 0 (Nat.le_refl _)) e2
      · simp; exact .clo .lnil
    | lsle =>
      have z1 : h1 = 0 := by omega
      have z3 : h3 = 0 := by omega
      subst z1; subst z3
      refine ⟨.sle, ?_, ?_⟩
      · exact slice_sle ht he hx (e1 0 (Nat.le_refl _)) e2
      · simp; exact .clo .lsle
    | @sl _ _ b o c _ _ bcs q1 q2 q3 q4 q5 =>
      refine ⟨_, slice_sl ht he hx (e1 c q4) e2, .clo ?_⟩
      have hk : h3 * ei.size ≤ cs.length := by omega
      by_cases hc : c = h3
      · rw [if_pos hc]
        have z : h1 = h3 := by omega
        subst z
        refine .sl q1 q2 ?_ (by omega) ?_
        · rw [hlen]; simp; omega
        · simp; exact .nil
      · rw [if_neg hc]
        refine .sl q1 q2 ?_ (by omega) (take_rel (drop_rel hk q5))
        rw [hlen]; omega
    | @slu _ _ b o ez _ _ bcs q1 q2 q3 q4 q5 =>
      have hk : h3 * ei.size ≤ cs.length := by omega
      have hz : 0 < n → ez = ei.size := fun hn => by
        have : n * ez = n * ei.size := by have := q4.1; omega
        exact Nat.eq_of_mul_eq_mul_left hn this
      by_cases hez : ez = ei.size
      · refine ⟨_, by rw [slice_slu ht he hx (e1 n (Nat.le_refl _)) e2, if_pos hez], .clo (.slu q1 q2 ?_ ?_ (take_rel (drop_rel hk q5)))⟩
        · rw [hlen]; omega
        · exact ⟨by rw [hlen, hez], fun h0 => by rw [hez]; exact hz1 h0⟩
      · have hn0 : n = 0 := by
          rcases Nat.eq_zero_or_pos n with h | h
          · exact h
          · exact absurd (hz h) hez
        have z0 : h1 = 0 := by omega
        have z3 : h3 = 0 := by omega
        subst z0; subst z3
        refine ⟨.slu b o 0 ez, by rw [slice_slu ht he hx (e1 n (Nat.le_refl _)) e2, if_neg hez, if_neg (by omega), if_pos rfl], .clo (.slu q1 q2 ?_ ?_ ?_)⟩
        · simp; omega
        · exact ⟨by simp, fun _ => q4.2 hn0⟩
        · simp; exact .nil
  · rename_i j o n c e'
    obtain ⟨hl, h⟩ := h
    obtain ⟨h1, l1, h2, g1⟩ := phiK_ok h hl
    obtain ⟨h3, l2, h4, g2⟩ := phiK_ok h2 (Nat.zero_le _)
    obtain ⟨o', rfl, h5⟩ := h4
    refine ⟨_, h5, fun H W β a' T' x hx hr ra => ?_⟩
    have e1 := g1 H W β T' (fun y hy => hr y (by simp at hy ⊢; exact .inr hy)) c (Nat.le_refl _)
    have e2 := g2 H W β T' (fun y hy => hr y (by simp at hy ⊢; exact .inl hy)) h1 (Nat.le_refl _)
    obtain ⟨b, hb, rfl⟩ := ra.own_inv
    exact ⟨_, slice_sl ht he hx e1 e2, .own _ _ _ _ hb⟩
  · rename_i j n e'
    split at h
    · obtain ⟨h1, l1, h2, g1⟩ := phiK_ok h (Nat.le_refl _)
      refine ⟨_, h2, fun H W β a' T' x hx hr ra => ?_⟩
      have e1 := g1 H W β T' (fun y hy => hr y (by simp at hy ⊢; exact hy)) n (Nat.le_refl _)
      obtain ⟨b, hb, rfl⟩ := ra.ownu_inv
      refine ⟨.slu b 0 h1 e', ?_, .ownu _ _ hb⟩
      rw [slice_slu (lo := none) ht he hx e1 rfl]
      simp
    · obtain ⟨rfl, h⟩ := h
      obtain ⟨h1, l1, h2, g1⟩ := phiK_ok h (Nat.le_refl _)
      obtain ⟨h3, l2, h4, g2⟩ := phiK_ok h2 (Nat.zero_le _)
      refine ⟨_, h4, fun H W β a' T' x hx hr ra => ?_⟩
      have e1 := g1 H W β T' (fun y hy => hr y (List.mem_append.2 (.inr hy))) n (Nat.le_refl _)
      have e2 := g2 H W β T' (fun y hy => hr y (List.mem_append.2 (.inl hy))) h1 (Nat.le_refl _)
      obtain ⟨b, hb, rfl⟩ := ra.ownu_inv
      exact ⟨_, by rw [slice_slu ht he hx e1 e2, if_pos rfl], .ownq _ _ _ hb⟩
  · rename_i j o n e'
    obtain ⟨rfl, h⟩ := h
    obtain ⟨h1, l1, h2, g1⟩ := phiK_ok h (Nat.le_refl _)
    obtain ⟨h3, l2, h4, g2⟩ := phiK_ok h2 (Nat.zero_le _)
    refine ⟨_, h4, fun H W β a' T' x hx hr ra => ?_⟩
    have e1 := g1 H W β T' (fun y hy => hr y (List.mem_append.2 (.inr hy))) n (Nat.le_refl _)
    have e2 := g2 H W β T' (fun y hy => hr y (List.mem_append.2 (.inl hy))) h1 (Nat.le_refl _)
    obtain ⟨b, hb, rfl⟩ := ra.ownq_inv
    exact ⟨_, by rw [slice_slu ht he hx e1 e2, if_pos rfl], .ownq _ _ _ hb⟩
  · exact h.elim
theorem pasl_ok {t e : TypeId} {n : Nat} {T : List PV} {ti ei : TI} {a : PV} {lo hi : Option Operand} {K : PV → Prop} (ht : C.ty t = some ti) (hd : ti.desc = .array n e) (he : C.ty e = some ei) (h : paslK T ei n a lo hi K) :
    ∃ r, K r ∧ ∀ (H : Heap) (W : Nat → Prop) (β : List Nat) (a' : AV) (T' : List AV) (x : Operand), opd T' x = some a' → (∀ y ∈ lo.toList ++ hi.toList, TR H W β T T' y) → RelV H W β a a' → ∃ v, pureE C (opd T') (.slice t x lo hi none) = some v ∧ RelV H W β r v := by
  obtain ⟨desc, sz, by', z⟩ := ti
  simp only at hd
  subst hd
  unfold paslK at h
  split at h
  · obtain ⟨h1, l1, h2, g1⟩ := phiK_ok h (Nat.le_refl _)
    obtain ⟨h3, l2, h4, g2⟩ := phiK_ok h2 (Nat.zero_le _)
    obtain ⟨o', rfl, h5⟩ := h4
    refine ⟨_, h5, fun H W β a' T' x hx hr ra => ?_⟩
    have e1 := g1 H W β T' (fun y hy => hr y (by simp at hy ⊢; exact .inr hy)) n (Nat.le_refl _)
    have e2 := g2 H W β T' (fun y hy => hr y (by simp at hy ⊢; exact .inl hy)) h1 (Nat.le_refl _)
    obtain ⟨b, hb, rfl⟩ := ra.optr_inv
    exact ⟨_, slice_arr ht he hx e1 e2, .own _ _ _ _ hb⟩
  · rename_i cs
    obtain ⟨hl, h⟩ := h
    obtain ⟨h1, l1, h2, g1⟩ := phiK_ok h (Nat.le_refl _)
    obtain ⟨h3, l2, h4, g2⟩ := phiK_ok h2 (Nat.zero_le _)
    obtain ⟨cs', rfl, h5⟩ := h4
    refine ⟨_, h5, fun H W β a' T' x hx hr ra => ?_⟩
    have e1 := g1 H W β T' (fun y hy => hr y (by simp at hy ⊢; exact .inr hy)) n (Nat.le_refl _)
    have e2 := g2 H W β T' (fun y hy => hr y (by simp at hy ⊢; exact .inl hy)) h1 (Nat.le_refl _)
    have m1 : h3 * ei.size + (h1 - h3) * ei.size = h1 * ei.size := by rw [← Nat.add_mul]; congr 1; omega
    have m2 : h1 * ei.size ≤ n * ei.size := Nat.mul_le_mul_right _ l1
    have hlen : ((cs.drop (h3 * ei.size)).take ((h1 - h3) * ei.size)).length = (h1 - h3) * ei.size := by simp; omega
    obtain ⟨b, o, _, _, _, rfl, q1, q2, q3, q5⟩ := ra.lptr_inv
    refine ⟨_, slice_arr ht he hx e1 e2, .clo ?_⟩
    have hk : h3 * ei.size ≤ cs.length := by omega
    by_cases hc : n = h3
    · rw [if_pos hc]
      have z : h1 = h3 := by omega
      subst z
      refine .sl q1 q2 ?_ (by omega) ?_
      · rw [hlen]; simp; omega
      · simp; exact .nil
    · rw [if_neg hc]
      refine .sl q1 q2 ?_ (by omega) (take_rel (drop_rel hk q5))
      rw [hlen]; omega
  · exact h.elim
end
end Go.PI
