/- Own work of the verifier: PvOps IntMath PiInt0. -/
import Derived.Test.YtefajaiioljjoaaOwAN
import Derived.Test.YtefajaiioljjoaaOwAK
set_option linter.all false
set_option exponentiation.threshold 3000
set_option linter.deprecated false
/- PLAIN VALUES: operations that do something to memory. -/
namespace Go.PI
def PV.pcells : PV → List PV
  | .agg cs => cs
  | v => [v]
def PV.one : PV → Bool
  | .agg _ | .tup _ => false
  | _ => true
def pones : List PV → Bool
  | [] => true
  | a :: as => a.one && pones as
def sm1 : PV → Bool
  | .agg _ | .tup _ | .fn _ | .fnc _ _ => false
  | _ => true
def sm1s : List PV → Bool
  | [] => true
  | a :: as => sm1 a && sm1s as
def smP : PV → Bool
  | .agg cs => sm1s cs
  | .fn _ => true
  | v => sm1 v
def pspl (cs : List PV) (off : Nat) (vs : List PV) : List PV := cs.take off ++ vs ++ cs.drop (off + vs.length)
def ploadE (C : Ctx) (σ : List StB) (t : TypeId) (p : PV) : Option PV :=
  match C.ty t with
  | some i => match p with
    | .optr j o => match contOf σ j with
      | some (_, cs) => partP i cs o
      | none => match livOf σ j with
        | some (_, cs) => partP i cs o
        | none => none
    | .lptr cs => partP i cs 0
    | .bptr cs => partP i cs 0
    | _ => none
  | none => none
def pstoreK (C : Ctx) (σ : List StB) (t : TypeId) (a v : PV) (K : List StB → Prop) : Prop :=
  match C.ty t with
  | some i => match a with
    | .optr j o => ∃ ty cs, σ[j]? = some (.live ty cs) ∧ (v.pcells.length = i.size ∧ o + i.size ≤ cs.length ∧ pones v.pcells = true) ∧ ∃ cs', pspl cs o v.pcells = cs' ∧ ∃ σ', σ.set j (.live ty cs') = σ' ∧ K σ'
    | _ => False
  | none => False
def pstoreL (C : Ctx) (σ : List StB) (t : TypeId) (a v : PV) (K : List StB → Prop) : Prop :=
  match C.ty t with
  | some i => match a with
    | .optr j o => ∃ ty cs, σ[j]? = some (.liv ty cs) ∧ (v.pcells.length = i.size ∧ o + i.size ≤ cs.length ∧ pones v.pcells = true) ∧ ∃ cs', pspl cs o v.pcells = cs' ∧ ∃ σ', σ.set j (.liv ty cs') = σ' ∧ K σ'
    | _ => False
  | none => False
def psrcK (σ : List StB) (ei : TI) (x : PV) (K : Nat → List PV → Prop) : Prop :=
  match x with
  | .nils => K 0 []
  | .lst n cs => cs.length = n * ei.size ∧ K n cs
  | .own j o n _ _ => ∃ ty cs new, contOf σ j = some (ty, cs) ∧ o + n * ei.size ≤ cs.length ∧ (cs.drop o).take (n * ei.size) = new ∧ K n new
  | .ownu j n _ => ∃ ty cs new, contOf σ j = some (ty, cs) ∧ n * ei.size ≤ cs.length ∧ cs.take (n * ei.size) = new ∧ K n new
  | .str s => ei.size = 1 ∧ K s.size (s.data.toList.map fun b => .int .u8 b.toNat)
  | _ => False
def contV (σ : List StB) (j : Nat) : Option (TypeId × List PV) :=
  match contOf σ j with
  | some x => some x
  | none => livOf σ j
def psrcL (σ : List StB) (ei : TI) (x : PV) (K : Nat → List PV → Prop) : Prop :=
  match x with
  | .nils => K 0 []
  | .lst n cs => cs.length = n * ei.size ∧ K n cs
  | .own j o n _ _ => ∃ ty cs new, contV σ j = some (ty, cs) ∧ o + n * ei.size ≤ cs.length ∧ (cs.drop o).take (n * ei.size) = new ∧ K n new
  | .ownu j n _ => ∃ ty cs new, contV σ j = some (ty, cs) ∧ n * ei.size ≤ cs.length ∧ cs.take (n * ei.size) = new ∧ K n new
  | _ => False
def pappL (C : Ctx) (c k : Nat) (σ : List StB) (ts : List TypeId) (s x : PV) (K : PV → List StB → Nat → Prop) : Prop :=
  match ts with
  | t :: tx :: _ => match C.ty t, C.ty tx with
    | some { desc := .slice e, .. }, some xi => match C.ty e with
      | some ei => match decide (srcOk xi.desc = true ∧ ei.bytes ≤ 2 ^ 10) with
        | true => psrcL σ ei x fun m new => (m ≤ 2 ^ 30 ∧ pones new = true) ∧ match s with
          | .nils => (m = 0 → K .nils σ k) ∧ (m ≠ 0 → k < c ∧ K (.ownu σ.length m ei.size) (σ ++ [.liv e new]) (k + 1))
          | .own j o n cap e' => n ≤ 2 ^ 30 ∧ (n + m ≤ cap → ∃ ty cs cs', σ[j]? = some (.liv ty cs) ∧ o + n * ei.size + new.length ≤ cs.length ∧ pspl cs (o + n * ei.size) new = cs' ∧ K (.own j o (n + m) cap e') (σ.set j (.liv ty cs')) k) ∧
              (cap < n + m → k < c ∧ ∃ ty cs cs', contV σ j = some (ty, cs) ∧ o + n * ei.size ≤ cs.length ∧ (cs.drop o).take (n * ei.size) ++ new = cs' ∧ K (.ownu σ.length (n + m) ei.size) (σ ++ [.liv e cs']) (k + 1))
          | .ownu j n e' => (n ≤ 2 ^ 30 ∧ e' = ei.size ∧ k < c) ∧ ∃ cs cs', σ[j]? = some (.liv e cs) ∧ n * ei.size ≤ cs.length ∧ cs.take (n * ei.size) ++ new = cs' ∧ K (.ownu σ.length (n + m) e') (σ.set j .dead ++ [.liv e cs']) (k + 1)
          | .ownq j o n e' => ((n ≤ 2 ^ 30 ∧ e' = ei.size ∧ k < c) ∧ qty e = true) ∧ ∃ cs cs', σ[j]? = some (.liv e cs) ∧ o + n * ei.size ≤ cs.length ∧ (cs.drop o).take (n * ei.size) ++ new = cs' ∧ K (.ownu σ.length (n + m) e') (σ.set j .dead ++ [.liv e cs']) (k + 1)
          | _ => False
        | false => False
      | none => False
    | _, _ => False
  | _ => False
def pappK (C : Ctx) (c k : Nat) (σ : List StB) (ts : List TypeId) (s x : PV) (K : PV → List StB → Nat → Prop) : Prop :=
  match ts with
  | t :: tx :: _ => match C.ty t, C.ty tx with
    | some { desc := .slice e, .. }, some xi => match C.ty e with
      | some ei => match decide (srcOk xi.desc = true ∧ ei.bytes ≤ 2 ^ 10) with
        | true => psrcK σ ei x fun m new => (m ≤ 2 ^ 30 ∧ pones new = true) ∧ match s with
          | .nils => (m = 0 → K .nils σ k) ∧ (m ≠ 0 → k < c ∧ K (.ownu σ.length m ei.size) (σ ++ [.live e new]) (k + 1))
          | .own j o n cap e' => n ≤ 2 ^ 30 ∧ (n + m ≤ cap → ∃ ty cs cs', σ[j]? = some (.live ty cs) ∧ o + n * ei.size + new.length ≤ cs.length ∧ pspl cs (o + n * ei.size) new = cs' ∧ K (.own j o (n + m) cap e') (σ.set j (.live ty cs')) k) ∧
              (cap < n + m → k < c ∧ ∃ ty cs cs', contOf σ j = some (ty, cs) ∧ o + n * ei.size ≤ cs.length ∧ (cs.drop o).take (n * ei.size) ++ new = cs' ∧ K (.ownu σ.length (n + m) ei.size) (σ ++ [.live e cs']) (k + 1))
          | .ownu j n e' => (n ≤ 2 ^ 30 ∧ e' = ei.size ∧ k < c) ∧ ∃ cs cs', σ[j]? = some (.live e cs) ∧ n * ei.size ≤ cs.length ∧ cs.take (n * ei.size) ++ new = cs' ∧ K (.ownu σ.length (n + m) e') (σ.set j .dead ++ [.live e cs']) (k + 1)
          | .ownq j o n e' => ((n ≤ 2 ^ 30 ∧ e' = ei.size ∧ k < c) ∧ qty e = true) ∧ ∃ cs cs', σ[j]? = some (.live e cs) ∧ o + n * ei.size ≤ cs.length ∧ (cs.drop o).take (n * ei.size) ++ new = cs' ∧ K (.ownu σ.length (n + m) e') (σ.set j .dead ++ [.live e cs']) (k + 1)
          | _ => False
        | false => match xi.desc, s, x with
          | .int _, .nils, .int _ n => match cellPs ei.zero.cells with
            | some zs => ((0 < n ∧ n ≤ 2 ^ 30) ∧ ei.bytes ≤ 2 ^ 10 ∧ 0 < ei.size ∧ ei.zero.cells.length = ei.size ∧ k < c) ∧ ∃ cs, (List.replicate n.toNat zs).flatten = cs ∧ K (.ownu σ.length n.toNat ei.size) (σ ++ [.live e cs]) (k + 1)
            | none => False
          | _, _, _ => False
      | none => False
    | _, _ => False
  | _ => False
def pcopyK (C : Ctx) (σ : List StB) (ts : List TypeId) (d x : PV) (K : PV → List StB → Prop) : Prop :=
  match ts with
  | t :: _ => match C.ty t with
    | some { desc := .slice e, .. } => match C.ty e with
      | some ei => psrcK σ ei x fun m new => match d with
        | .own j o n _ _ => ∃ ty cs cs', σ[j]? = some (.live ty cs) ∧ (o + min m n * ei.size ≤ cs.length ∧ min m n * ei.size ≤ new.length ∧ pones (new.take (min m n * ei.size)) = true) ∧ pspl cs o (new.take (min m n * ei.size)) = cs' ∧ K (.int .i64 (min m n : Nat)) (σ.set j (.live ty cs'))
        | _ => False
      | none => False
    | _ => False
  | _ => False
def pmapGet : List (Int × PV) → Int → Option PV
  | [], _ => none
  | (k, v) :: es, n => match k == n with
    | true => some v
    | false => pmapGet es n
def pmapSet : List (Int × PV) → Int → PV → List (Int × PV)
  | [], n, v => [(n, v)]
  | (k, x) :: es, n, v => match k == n with
    | true => (n, v) :: es
    | false => (k, x) :: pmapSet es n v
def pmakeK (C : Ctx) (c k : Nat) (σ : List StB) (t : TypeId) (K : PV → List StB → Nat → Prop) : Prop :=
  k < c ∧ match C.ty t with
  | some { desc := .map kt _, .. } => match C.ty kt with
    | some { desc := .int kd, .. } => K (.omap σ.length) (σ ++ [.mp kd []]) (k + 1)
    | _ => False
  | _ => False
def plookK (C : Ctx) (σ : List StB) (t : TypeId) (m key : PV) (ok : Bool) (K : PV → Prop) : Prop :=
  match C.ty t with
  | some { desc := .map kt et, .. } => match C.ty kt, C.ty et with
    | some { desc := .int k1, .. }, some ei => match m, key with
      | .omap j, .int kd n => ∃ es, (kd = k1 ∧ σ[j]? = some (.mp kd es)) ∧ (∀ v, pmapGet es n = some v → K (match ok with | true => .tup [v, .bool true] | false => v)) ∧
          (pmapGet es n = none → match constA ei.zero with
            | some z => K (match ok with | true => .tup [z, .bool false] | false => z)
            | none => False)
      | _, _ => False
    | _, _ => False
  | _ => False
def pupdK (C : Ctx) (σ : List StB) (t : TypeId) (m key v : PV) (K : List StB → Prop) : Prop :=
  match C.ty t with
  | some { desc := .map kt _, .. } => match C.ty kt with
    | some { desc := .int k1, .. } => match m, key with
      | .omap j, .int kd n => frzAK σ v fun v' σ' => ∃ es es', (kd = k1 ∧ σ'[j]? = some (.mp kd es)) ∧ pmapSet es n v' = es' ∧ ∃ σ2, σ'.set j (.mp kd es') = σ2 ∧ K σ2
      | _, _ => False
    | _ => False
  | _ => False
def plenK (σ : List StB) (ps : List PV) (K : PV → Prop) : Prop :=
  match ps with
  | [.omap j] => ∃ kd es, σ[j]? = some (.mp kd es) ∧ es.length < 2 ^ 62 ∧ K (.int .i64 es.length)
  | _ => False
def ppartsK (T : List PV) : List (Nat × Operand) → (List (Nat × PV) → Prop) → Prop
  | [], K => K []
  | (i, x) :: xs, K => popdK T x fun a => ppartsK T xs fun as => K ((i, a) :: as)
def frzPK (σ : List StB) : List (Nat × PV) → (List (Nat × PV) → List StB → Prop) → Prop
  | [], K => K [] σ
  | (i, p) :: ps, K => frzAK σ p fun p' σ' => frzPK σ' ps fun ps' σ'' => K ((i, p') :: ps') σ''
def fillP (place : Nat → Option (Nat × Nat)) (cells : List PV) : List (Nat × PV) → Option (List PV)
  | [] => some cells
  | (i, v) :: rest => match place i with
    | none => none
    | some (off, size) => if v.pcells.length ≠ size ∨ off + size > cells.length then none else fillP place (pspl cells off v.pcells) rest
section
variable {C : Ctx} {H0 H : Heap} {W0 W : Nat → Prop} {c k : Nat} {σ : List StB} {β : List Nat}
theorem RelC.cells {p : PV} {a : AV} (h : RelC H W p a) : All2 (RelC H W) p.pcells a.cells := by
  cases h with
  | agg h => exact h
  | int => exact .cons (.int _ _) .nil
  | bool => exact .cons (.bool _) .nil
  | str => exact .cons (.str _) .nil
  | nilp => exact .cons .nilp .nil
  | nilf => exact .cons .nilf .nil
  | nilm => exact .cons .nilm .nil
  | nili => exact .cons .nili .nil
  | fn => exact .cons (.fn _) .nil
  | fnc _ h => exact .cons (.fnc _ h) .nil
  | lnil => exact .cons .lnil .nil
  | lsle => exact .cons .lsle .nil
  | sl a b c d e => exact .cons (.sl a b c d e) .nil
  | slu a b c d e => exact .cons (.slu a b c d e) .nil
  | lptr a b c d => exact .cons (.lptr a b c d) .nil
  | tup h => exact .cons (.tup h) .nil
theorem RelC.one {p : PV} {a : AV} (h : RelC H W p a) (ho : p.one = true) : a.one = true := by
  cases h <;> first | rfl | cases ho
theorem ones_rel : ∀ {ps : List PV} {as : List AV}, All2 (RelC H W) ps as → pones ps = true → ones as = true
  | [], _, h, _ => by cases h; rfl
  | p :: ps, _, h, ho => by
    cases h with
    | cons h1 h2 =>
      simp only [pones, Bool.and_eq_true] at ho
      simp only [ones, h1.one ho.1, ones_rel h2 ho.2, Bool.and_self]
theorem RelV.cells {p : PV} {a : AV} (h : RelV H W β p a) : All2 (RelV H W β) p.pcells a.cells := by
  cases h with
  | clo h => exact RelVs.clo h.cells
  | nils => exact .cons .nils .nil
  | fnc _ h => exact .cons (.fnc _ h) .nil
  | omap h => exact .cons (.omap h) .nil
  | yld h => exact .cons (.yld h) .nil
  | own o n c e h => exact .cons (.own o n c e h) .nil
  | ownu n e h => exact .cons (.ownu n e h) .nil
  | ownq o n e h => exact .cons (.ownq o n e h) .nil
  | optr o h => exact .cons (.optr o h) .nil
  | bptr a b c d => exact .cons (.bptr a b c d) .nil
  | agg h => exact h
  | tup h => exact .cons (.tup h) .nil
theorem RelV.one {p : PV} {a : AV} (h : RelV H W β p a) (ho : p.one = true) : a.one = true := by
  cases h with
  | clo h => exact h.one ho
  | agg => cases ho
  | tup => cases ho
  | _ => rfl
theorem onesV_rel : ∀ {ps : List PV} {as : List AV}, All2 (RelV H W β) ps as → pones ps = true → ones as = true
  | [], _, h, _ => by cases h; rfl
  | p :: ps, _, h, ho => by
    cases h with
    | cons h1 h2 =>
      simp only [pones, Bool.and_eq_true] at ho
      simp only [ones, h1.one ho.1, onesV_rel h2 ho.2, Bool.and_self]
theorem RelV.sm1 {p : PV} {a : AV} (h : RelV H W β p a) (hs : sm1 p = true) : a.sames a = true := by
  cases h with
  | clo h => cases h <;> first | (simp [AV.sames]; done) | cases hs
  | nils => rfl
  | own => simp [AV.sames]
  | ownu => simp [AV.sames]
  | ownq => simp [AV.sames]
  | optr => simp [AV.sames]
  | bptr => simp [AV.sames]
  | fnc => cases hs
  | omap => simp [AV.sames]
  | yld => simp [AV.sames]
  | agg => cases hs
  | tup => cases hs
theorem RelV.sm1s : ∀ {ps : List PV} {as : List AV}, All2 (RelV H W β) ps as → PI.sm1s ps = true → sameLs as as = true
  | [], _, h, _ => by cases h; rfl
  | p :: ps, _, h, hs => by
    cases h with
    | cons h1 h2 =>
      simp only [PI.sm1s, Bool.and_eq_true] at hs
      simp only [sameLs, h1.sm1 hs.1, RelV.sm1s h2 hs.2, Bool.and_self]
theorem RelV.same {p : PV} {a : AV} (h : RelV H W β p a) (hs : smP p = true) : a.same a = true := by
  have key : PI.sm1 p = true → a.same a = true := fun h1 => by
    have := h.sm1 h1
    cases a <;> first | exact this | (simp [AV.sames] at this)
  cases p with
  | agg cs =>
    obtain ⟨as, rfl, h2⟩ := h.agg_inv
    exact RelV.sm1s h2 hs
  | fn f =>
    cases h with
    | clo h => cases h; simp [AV.same, sameLs]
  | _ => exact key hs
theorem spl_rel {R : PV → AV → Prop} {cs vs : List PV} {as us : List AV} (h : All2 R cs as) (h2 : All2 R vs us) (o : Nat) : All2 R (pspl cs o vs) (splice as o us) := by
  unfold pspl splice
  rw [h2.length]
  exact All2.append (All2.append (h.take _) h2) (h.drop _)
theorem load_ok (I : Sto H0 W0 c σ k W β H) {t : TypeId} {p r : PV} {a : AV} (h : ploadE C σ t p = some r) (hr : RelV H W β p a) :
    ∃ b o v, a = .ptr b o ∧ b < H.n ∧ loadE C t a H = some v ∧ RelV H W β r v := by
  unfold ploadE at h
  split at h
  · rename_i i ht
    split at h
    · rename_i j o
      obtain ⟨b, hb, rfl⟩ := hr.optr_inv
      split at h
      · rename_i ty cs hc
        obtain ⟨rw', acs, h1, h2⟩ := I.cont hc hb
        obtain ⟨v, h3, h4⟩ := partP_ok ht (fun _ _ h => RelC.agg h) h2 h
        exact ⟨b, o, v, rfl, (I.bl j b hb).2, by simp only [loadE, ht, h1]; exact h3, .clo h4⟩
      · split at h
        · rename_i ty cs hc
          obtain ⟨-, acs, h1, h2⟩ := I.liv j ty cs b (livOf_is hc) hb
          obtain ⟨v, h3, h4⟩ := partP_ok ht (fun _ _ h => RelV.agg h) h2 h
          exact ⟨b, o, v, rfl, (I.bl j b hb).2, by simp only [loadE, ht, h1]; exact h3, h4⟩
        · cases h
    · rename_i cs
      obtain ⟨b, o, _, _, bcs, rfl, q1, q2, q3, q4⟩ := hr.lptr_inv
      have key : ∀ {x}, partE C t ((bcs.drop o).take cs.length) 0 = some x → partE C t bcs o = some x := fun {x} hx => by
        have hl := q4.length
        simp only [partE, ht] at hx ⊢
        split at hx
        · split at hx
          · cases hx
            rename_i hle
            rw [← hl] at hle
            rw [if_pos (by omega)]
            congr 2
            rw [List.drop_zero, List.take_take, Nat.min_eq_left (by omega)]
          · cases hx
        · split at hx
          · cases hx
            rename_i hle
            rw [← hl] at hle
            rw [if_pos (by omega)]
            congr 2
            rw [List.drop_zero, List.take_take, Nat.min_eq_left (by omega)]
          · cases hx
        · have h0 : 0 < cs.length := by
            have := (List.getElem?_eq_some_iff.1 hx).1
            rw [← hl] at this
            exact this
          rw [List.getElem?_take, if_pos h0, List.getElem?_drop] at hx
          exact hx
      obtain ⟨v, h3, h4⟩ := partP_ok ht (fun _ _ h => RelC.agg h) q4 h
      refine ⟨b, o, v, rfl, Heap.lt_cells q2, ?_, .clo h4⟩
      have := key h3
      simp only [loadE, ht, q2]
      exact this
    · rename_i cs
      obtain ⟨b, o, _, _, bcs, rfl, q1, q2, q3, q4⟩ := hr.bptr_inv
      have key : ∀ {x}, partE C t ((bcs.drop o).take cs.length) 0 = some x → partE C t bcs o = some x := fun {x} hx => by
        have hl := q4.length
        simp only [partE, ht] at hx ⊢
        split at hx
        · split at hx
          · cases hx
            rename_i hle
            rw [← hl] at hle
            rw [if_pos (by omega)]
            congr 2
            rw [List.drop_zero, List.take_take, Nat.min_eq_left (by omega)]
          · cases hx
        · split at hx
          · cases hx
            rename_i hle
            rw [← hl] at hle
            rw [if_pos (by omega)]
            congr 2
            rw [List.drop_zero, List.take_take, Nat.min_eq_left (by omega)]
          · cases hx
        · have h0 : 0 < cs.length := by
            have := (List.getElem?_eq_some_iff.1 hx).1
            rw [← hl] at this
            exact this
          rw [List.getElem?_take, if_pos h0, List.getElem?_drop] at hx
          exact hx
      obtain ⟨v, h3, h4⟩ := partP_ok ht (fun _ _ h => RelC.agg h) q4 h
      refine ⟨b, o, v, rfl, Heap.lt_cells q2, ?_, .clo h4⟩
      have := key h3
      simp only [loadE, ht, q2]
      exact this
    · cases h
  · cases h
theorem RelV.yld_inv {i : Nat} {a : AV} (h : RelV H W β (.yld i) a) : ∃ b, β[i]? = some b ∧ a = .yld b := by
  cases h with
  | clo h => cases h
  | yld h => exact ⟨_, h, rfl⟩
theorem RelV.omap_inv {i : Nat} {a : AV} (h : RelV H W β (.omap i) a) : ∃ b, β[i]? = some b ∧ a = .mp b := by
  cases h with
  | clo h => cases h
  | omap h => exact ⟨_, h, rfl⟩
theorem RelV.fnc_inv {g : Nat} {cs : List PV} {a : AV} (h : RelV H W β (.fnc g cs) a) : ∃ as, a = .fn g [] as ∧ All2 (RelV H W β) cs as := by
  cases h with
  | clo h => cases h with
    | fnc _ h => exact ⟨_, rfl, RelVs.clo h⟩
  | fnc _ h => exact ⟨_, rfl, h⟩
theorem get_ent {n : Int} : ∀ {es : List (Int × PV)} {aes : List (Int × AV)}, All2 (EntP H W) es aes → (pmapGet es n = none ∧ mapGet aes n = none) ∨ ∃ p a, pmapGet es n = some p ∧ mapGet aes n = some a ∧ RelC H W p a
  | [], _, h => by cases h; exact .inl ⟨rfl, rfl⟩
  | (k, p) :: es, _, h => by
    cases h with
    | @cons _ e _ aes h1 h2 =>
      obtain ⟨k', a⟩ := e
      obtain ⟨hk, hp⟩ := h1
      simp only at hk hp
      subst hk
      unfold pmapGet mapGet
      cases hb : k == n with
      | true => exact .inr ⟨p, a, rfl, rfl, hp⟩
      | false => exact get_ent h2
theorem set_ent {n : Int} {v : PV} {u : AV} (hv : RelC H W v u) : ∀ {es : List (Int × PV)} {aes : List (Int × AV)}, All2 (EntP H W) es aes → All2 (EntP H W) (pmapSet es n v) (mapSet aes n u)
  | [], _, h => by cases h; exact .cons ⟨rfl, hv⟩ .nil
  | (k, p) :: es, _, h => by
    cases h with
    | @cons _ e _ aes h1 h2 =>
      obtain ⟨k', a⟩ := e
      obtain ⟨hk, hp⟩ := h1
      simp only at hk hp
      subst hk
      unfold pmapSet mapSet
      cases hb : k == n with
      | true => exact .cons ⟨rfl, hv⟩ h2
      | false => exact .cons ⟨rfl, hp⟩ (set_ent hv h2)
theorem look_ok (I : Sto H0 W0 c σ k W β H) {t : TypeId} {m key : PV} {ok : Bool} {a b : AV} {K : PV → Prop} (h : plookK C σ t m key ok K) (hm : RelV H W β m a) (hk : RelV H W β key b) :
    ∃ r v, lookupE C t a b ok H = some (v, H) ∧ RelV H W β r v ∧ K r := by
  unfold plookK at h
  split at h
  · rename_i kt et _ _ _ ht
    split at h
    · rename_i k1 _ _ _ ei hkt het
      split at h
      · rename_i j kd n
        obtain ⟨es, ⟨rfl, hj⟩, h1, h2⟩ := h
        obtain ⟨x, hx, rfl⟩ := hm.omap_inv
        have := hk.int_inv
        subst this
        obtain ⟨-, aes, g1, g2⟩ := I.map j kd es x hj hx
        rcases get_ent (n := n) g2 with ⟨q1, q2⟩ | ⟨p, u, q1, q2, q3⟩
        · have h2 := h2 q1
          split at h2
          · rename_i z hz
            have hzr : RelV H W β z ei.zero := constA_ok hz
            cases ok with
            | true => exact ⟨_, .tup [ei.zero, .bool false], by simp [lookupE, ht, hkt, het, g1, q2], .tup (.cons hzr (.cons (.clo (.bool _)) .nil)), h2⟩
            | false => exact ⟨_, ei.zero, by simp [lookupE, ht, hkt, het, g1, q2], hzr, h2⟩
          · exact h2.elim
        · have h1 := h1 p q1
          cases ok with
          | true => exact ⟨_, .tup [u, .bool true], by simp [lookupE, ht, hkt, het, g1, q2], .tup (.cons (.clo q3) (.cons (.clo (.bool _)) .nil)), h1⟩
          | false => exact ⟨_, u, by simp [lookupE, ht, hkt, het, g1, q2], .clo q3, h1⟩
      · exact h.elim
    · exact h.elim
  · exact h.elim
theorem upd_ok (I : Sto H0 W0 c σ k W β H) {t : TypeId} {m key v : PV} {a b u : AV} {K : List StB → Prop} (h : pupdK C σ t m key v K) (hm : RelV H W β m a) (hk : RelV H W β key b) (hv : RelV H W β v u) :
    ∃ H' σ' W', updateE C t a b u H = some (undefA, H') ∧ Ext W β H W' β H' ∧ Sto H0 W0 c σ' k W' β H' ∧ K σ' := by
  unfold pupdK at h
  split at h
  · rename_i kt et _ _ _ ht
    split at h
    · rename_i k1 _ _ _ hkt
      split at h
      · rename_i j kd n
        obtain ⟨v', σ', W', f, r, es, es', ⟨rfl, hj⟩, rfl, σ2, rfl, hK⟩ := frzAK_ok h I hv
        obtain ⟨x, hx, rfl⟩ := hm.omap_inv
        have := hk.int_inv
        subst this
        obtain ⟨hW, aes, g1, g2⟩ := f.2.1.map j kd es x hj hx
        obtain ⟨E, I'⟩ := f.2.1.writeB hj rfl hx (y := .mp kd (pmapSet es n v')) (bk := .map kd (mapSet aes n u)) ⟨_, rfl, set_ent r g2⟩
        exact ⟨_, _, W', by simp [updateE, ht, hkt, g1], f.1.trans E, I', hK⟩
      · exact h.elim
    · exact h.elim
  · exact h.elim
theorem len_ok (I : Sto H0 W0 c σ k W β H) {ps : List PV} {as : List AV} {K : PV → Prop} (h : plenK σ ps K) (hr : All2 (RelV H W β) ps as) :
    ∃ a n, as = [a] ∧ lenMapE a H = some (.int .i64 n, H) ∧ K (.int .i64 n) := by
  unfold plenK at h
  split at h
  · rename_i j
    obtain ⟨kd, es, hj, hl, hK⟩ := h
    cases hr with
    | cons h1 h2 =>
      cases h2
      obtain ⟨x, hx, rfl⟩ := h1.omap_inv
      obtain ⟨-, aes, g1, g2⟩ := I.map j kd es x hj hx
      have e : es.length = aes.length := g2.length
      exact ⟨_, _, rfl, by simp only [lenMapE, g1]; rw [if_pos (by omega), ← e], hK⟩
  · exact h.elim
theorem store_ok (I : Sto H0 W0 c σ k W β H) {t : TypeId} {p q : PV} {a v : AV} {K : List StB → Prop} (h : pstoreK C σ t p q K) (hp : RelV H W β p a) (hq : RelC H W q v) :
    ∃ H' σ', storeE C t a v H = some H' ∧ Ext W β H W β H' ∧ Sto H0 W0 c σ' k W β H' ∧ K σ' := by
  unfold pstoreK at h
  split at h
  · rename_i i ht
    split at h
    · rename_i j o
      obtain ⟨ty, cs, hj, ⟨h1, h2, h3⟩, cs', rfl, σ', rfl, h4⟩ := h
      obtain ⟨b, hb, rfl⟩ := hp.optr_inv
      obtain ⟨hW, acs, g1, g2⟩ := I.live j ty cs b hj hb
      have hc := hq.cells
      have hl := hc.length
      have hl2 := g2.length
      obtain ⟨E, I'⟩ := I.write (ty' := ty) hj hb (spl_rel g2 hc o)
      exact ⟨_, _, by simp only [storeE, ht, g1]; rw [if_pos ⟨by omega, by omega, ones_rel hc h3⟩], E, I', h4⟩
    · exact h.elim
  · exact h.elim
theorem storeL_ok (I : Sto H0 W0 c σ k W β H) {t : TypeId} {p q : PV} {a v : AV} {K : List StB → Prop} (h : pstoreL C σ t p q K) (hp : RelV H W β p a) (hq : RelV H W β q v) :
    ∃ H' σ', storeE C t a v H = some H' ∧ Ext W β H W β H' ∧ Sto H0 W0 c σ' k W β H' ∧ K σ' := by
  unfold pstoreL at h
  split at h
  · rename_i i ht
    split at h
    · rename_i j o
      obtain ⟨ty, cs, hj, ⟨h1, h2, h3⟩, cs', rfl, σ', rfl, h4⟩ := h
      obtain ⟨b, hb, rfl⟩ := hp.optr_inv
      obtain ⟨hW, acs, g1, g2⟩ := I.liv j ty cs b hj hb
      have hc := hq.cells
      have hl := hc.length
      have hl2 := g2.length
      obtain ⟨E, I'⟩ := I.writeG (ty' := ty) hj (.inr ⟨_, _, rfl⟩) hb (y := .liv ty _) ⟨rfl, spl_rel g2 hc o⟩
      exact ⟨_, _, by simp only [storeE, ht, g1]; rw [if_pos ⟨by omega, by omega, onesV_rel hc h3⟩], E, I', h4⟩
    · exact h.elim
  · exact h.elim
theorem Sto.contV (I : Sto H0 W0 c σ k W β H) {i : Nat} {ty : TypeId} {cs : List PV} {b : Nat} (h : contV σ i = some (ty, cs)) (hb : β[i]? = some b) :
    ∃ rw acs, H.get b = .cells rw ty acs ∧ All2 (RelV H W β) cs acs := by
  unfold PI.contV at h
  split at h
  · rename_i hc
    cases h
    obtain ⟨rw', acs, h1, h2⟩ := I.cont hc hb
    exact ⟨rw', acs, h1, RelVs.clo h2⟩
  · obtain ⟨-, acs, h1, h2⟩ := I.liv i ty cs b (livOf_is h) hb
    exact ⟨true, acs, h1, h2⟩
theorem srcL_ok (I : Sto H0 W0 c σ k W β H) {ei : TI} {x : PV} {a : AV} {K : Nat → List PV → Prop} (h : psrcL σ ei x K) (hr : RelV H W β x a) :
    ∃ m new, K m new ∧ lenE a = some m ∧ new.length = m * ei.size ∧ ∃ l, cellsE H ei.size m a = some l ∧ All2 (RelV H W β) new l := by
  unfold psrcL at h
  split at h
  · have := hr.nils_inv
    subst this
    exact ⟨0, [], h, rfl, by simp, [], by simp [cellsE], .nil⟩
  · rename_i n cs
    obtain ⟨h1, h2⟩ := h
    have hl := hr.lst_inv
    refine ⟨n, cs, h2, ?_, h1, ?_⟩
    · cases hl <;> rfl
    · cases hl with
      | lnil => exact ⟨[], by simp [cellsE], .nil⟩
      | lsle => exact ⟨[], by simp [cellsE], .nil⟩
      | @sl _ _ b o cp rw' ty bcs q1 q2 q3 q4 q5 =>
        refine ⟨_, by simp only [cellsE, q2]; rw [if_pos (by omega)], ?_⟩
        have := RelVs.clo (β := β) q5
        rwa [h1] at this
      | @slu _ _ b o ez rw' ty bcs q1 q2 q3 q4 q5 =>
        refine ⟨_, by simp only [cellsE, q2]; rw [if_pos (by omega)], ?_⟩
        have := RelVs.clo (β := β) q5
        rwa [h1] at this
  · rename_i j o n cp e
    obtain ⟨ty, cs, new, h1, h2, rfl, h3⟩ := h
    obtain ⟨b, hb, rfl⟩ := hr.own_inv
    obtain ⟨rw', acs, g1, g2⟩ := I.contV h1 hb
    have hl := g2.length
    exact ⟨n, _, h3, rfl, by simp; omega, _, by simp only [cellsE, g1]; rw [if_pos (by omega)], (g2.drop o).take _⟩
  · rename_i j n e
    obtain ⟨ty, cs, new, h1, h2, rfl, h3⟩ := h
    obtain ⟨b, hb, rfl⟩ := hr.ownu_inv
    obtain ⟨rw', acs, g1, g2⟩ := I.contV h1 hb
    have hl := g2.length
    exact ⟨n, _, h3, rfl, by simp; omega, _, by simp only [cellsE, g1]; rw [if_pos (by omega)], (g2.drop 0).take _⟩
  · exact h.elim
theorem src_ok (I : Sto H0 W0 c σ k W β H) {ei : TI} {x : PV} {a : AV} {K : Nat → List PV → Prop} (h : psrcK σ ei x K) (hr : RelV H W β x a) :
    ∃ m new, K m new ∧ lenE a = some m ∧ new.length = m * ei.size ∧ ∀ n, n ≤ m → ∃ l, cellsE H ei.size n a = some l ∧ All2 (RelC H W) (new.take (n * ei.size)) l := by
  unfold psrcK at h
  split at h
  · have := hr.nils_inv
    subst this
    refine ⟨0, [], h, rfl, by simp, fun n hn => ⟨[], ?_, by simp; exact .nil⟩⟩
    have : n = 0 := by omega
    simp [cellsE, this]
  · rename_i n cs
    obtain ⟨h1, h2⟩ := h
    have hl := hr.lst_inv
    refine ⟨n, cs, h2, ?_, h1, ?_⟩
    · cases hl <;> rfl
    · intro m hm
      have hms : m * ei.size ≤ n * ei.size := Nat.mul_le_mul_right _ hm
      cases hl with
      | lnil =>
        have : m = 0 := by omega
        exact ⟨[], by simp [cellsE, this], by simp; exact .nil⟩
      | lsle =>
        have : m = 0 := by omega
        exact ⟨[], by simp [cellsE, this], by simp; exact .nil⟩
      | @sl _ _ b o cp rw' ty bcs q1 q2 q3 q4 q5 =>
        refine ⟨_, by simp only [cellsE, q2]; rw [if_pos (by omega)], ?_⟩
        have := take_rel (k := m * ei.size) q5
        rwa [List.length_take, Nat.min_eq_left (by omega)] at this
      | @slu _ _ b o ez rw' ty bcs q1 q2 q3 q4 q5 =>
        refine ⟨_, by simp only [cellsE, q2]; rw [if_pos (by omega)], ?_⟩
        have := take_rel (k := m * ei.size) q5
        rwa [List.length_take, Nat.min_eq_left (by omega)] at this
  · rename_i j o n cp e
    obtain ⟨ty, cs, new, h1, h2, rfl, h3⟩ := h
    obtain ⟨b, hb, rfl⟩ := hr.own_inv
    obtain ⟨rw', acs, g1, g2⟩ := I.cont h1 hb
    have hl := g2.length
    refine ⟨n, _, h3, rfl, by simp; omega, fun m hm => ?_⟩
    have hms : m * ei.size ≤ n * ei.size := Nat.mul_le_mul_right _ hm
    refine ⟨_, by simp only [cellsE, g1]; rw [if_pos (by omega)], ?_⟩
    rw [List.take_take, Nat.min_eq_left hms]
    exact (g2.drop o).take _
  · rename_i j n e
    obtain ⟨ty, cs, new, h1, h2, rfl, h3⟩ := h
    obtain ⟨b, hb, rfl⟩ := hr.ownu_inv
    obtain ⟨rw', acs, g1, g2⟩ := I.cont h1 hb
    have hl := g2.length
    refine ⟨n, _, h3, rfl, by simp; omega, fun m hm => ?_⟩
    have hms : m * ei.size ≤ n * ei.size := Nat.mul_le_mul_right _ hm
    refine ⟨_, by simp only [cellsE, g1]; rw [if_pos (by omega)], ?_⟩
    rw [List.take_take, Nat.min_eq_left hms]
    exact (g2.drop 0).take _
  · rename_i s
    obtain ⟨h1, h2⟩ := h
    have := hr.str_inv
    subst this
    refine ⟨_, _, h2, rfl, by rw [h1, Nat.mul_one, List.length_map, Array.length_toList]; rfl, fun m hm => ⟨_, by simp only [cellsE]; rw [if_pos ⟨h1, hm⟩], ?_⟩⟩
    rw [h1, Nat.mul_one, ← List.map_take]
    generalize List.take m s.data.toList = l
    induction l with
    | nil => exact .nil
    | cons x xs ih => exact .cons (.int _ _) ih
  · exact h.elim
def Out (H0 : Heap) (W0 : Nat → Prop) (c : Nat) (W : Nat → Prop) (β : List Nat) (H : Heap) (K : PV → List StB → Nat → Prop) (v : AV) (H' : Heap) : Prop :=
  ∃ r σ' k' W' β', Ext W β H W' β' H' ∧ Sto H0 W0 c σ' k' W' β' H' ∧ RelV H' W' β' r v ∧ K r σ' k'
theorem undef_rel : RelV H W β undefP undefA := .clo (.tup .nil)
theorem zeros_flat {W : Nat → Prop} {zs : List PV} {avs : List AV} (h : All2 (RelC H W) zs avs) (n : Nat) : All2 (RelC H W) (List.replicate n zs).flatten (List.replicate n avs).flatten := by
  induction n with
  | zero => exact .nil
  | succ n ih => rw [List.replicate_succ, List.replicate_succ, List.flatten_cons, List.flatten_cons]; exact All2.append h ih
theorem app_ok (I : Sto H0 W0 c σ k W β H) {ts : List TypeId} {s x : PV} {a b : AV} {K : PV → List StB → Nat → Prop} (h : pappK C c k σ ts s x K) (hs : RelV H W β s a) (hx : RelV H W β x b) :
    ∃ v H', appendE C ts a b H = some (v, H') ∧ Out H0 W0 c W β H K v H' := by
  unfold pappK at h
  split at h
  · rename_i t tx rest
    split at h
    · rename_i e _ _ _ xi ht htx
      split at h
      · rename_i ei he
        split at h
        · rename_i hd
          obtain ⟨hd1, hd2⟩ := of_decide_eq_true hd
          obtain ⟨m, new, ⟨⟨h1, h2⟩, h3⟩, h4, hlen, h5⟩ := src_ok I h hx
          obtain ⟨l, h6, h7⟩ := h5 m (Nat.le_refl _)
          rw [List.take_of_length_le (by omega)] at h7
          have hl := h7.length
          have hnl := I.nlim
          have pre : ¬ (srcOk xi.desc = false ∨ ei.bytes > 2 ^ 10 ∨ lim ≤ H.n) := by
            intro hh
            rcases hh with hh | hh | hh
            · rw [hd1] at hh; cases hh
            · omega
            · omega
          have hm1 : ¬ m > 2 ^ 30 := by omega
          have ho := ones_rel h7 h2
          split at h3
          · have := hs.nils_inv
            subst this
            by_cases hm : m = 0
            · refine ⟨.nils, H, ?_, _, _, _, W, β, Ext.refl _ _ _, I, .nils, h3.1 hm⟩
              simp only [appendE, ht, htx, he, if_neg pre, h4, if_neg hm1, h6, ho, if_pos hm]
              rfl
            · obtain ⟨hk, hK⟩ := h3.2 hm
              obtain ⟨W', E, I', hb⟩ := I.push hk (ty := e) h7
              refine ⟨_, _, ?_, _, _, _, W', _, E, I', .ownu _ _ hb, hK⟩
              simp only [appendE, ht, htx, he, if_neg pre, h4, if_neg hm1, h6, ho, if_neg hm]
              simp
          · rename_i j o n cap e'
            obtain ⟨hn, h8, h9⟩ := h3
            obtain ⟨b, hb, rfl⟩ := hs.own_inv
            have hn1 : ¬ n > 2 ^ 30 := by omega
            by_cases hc : n + m ≤ cap
            · obtain ⟨ty, cs, cs', q1, q2, rfl, q3⟩ := h8 hc
              obtain ⟨hW, acs, g1, g2⟩ := I.live j ty cs b q1 hb
              have hl2 := g2.length
              obtain ⟨E, I'⟩ := I.write (ty' := ty) q1 hb (spl_rel g2 h7 (o + n * ei.size))
              refine ⟨.sl b o (n + m) cap, _, ?_, _, _, _, W, β, E, I', .own _ _ _ _ hb, q3⟩
              simp only [appendE, ht, htx, he, if_neg pre, h4, if_neg hm1, h6, ho, Bool.true_eq_false, if_false, if_neg hn1, g1, if_pos hc, if_true]
              rw [if_pos (by omega)]
            · obtain ⟨hk, ty, cs, cs', q1, q2, rfl, q3⟩ := h9 (by omega)
              obtain ⟨rw', acs, g1, g2⟩ := I.cont q1 hb
              have hl2 := g2.length
              obtain ⟨W', E, I', hb'⟩ := I.push hk (ty := e) (All2.append ((g2.drop o).take (n * ei.size)) h7)
              refine ⟨_, _, ?_, _, _, _, W', _, E, I', .ownu _ _ hb', q3⟩
              simp only [appendE, ht, htx, he, if_neg pre, h4, if_neg hm1, h6, ho, Bool.true_eq_false, if_false, if_neg hn1, g1, if_neg hc]
              rw [if_pos (by omega)]
          · rename_i j n e'
            obtain ⟨⟨hn, rfl, hk⟩, cs, cs', q1, q2, rfl, q3⟩ := h3
            obtain ⟨b, hb, rfl⟩ := hs.ownu_inv
            have hn1 : ¬ n > 2 ^ 30 := by omega
            obtain ⟨hW, acs, g1, g2⟩ := I.live j e cs b q1 hb
            have hl2 := g2.length
            obtain ⟨E1, I1⟩ := I.kill q1 hb
            obtain ⟨W', E, I', hb'⟩ := I1.push hk (ty := e) (RelCs.ext E1 (All2.append (g2.take (n * ei.size)) h7))
            rw [List.length_set] at hb'
            refine ⟨_, _, ?_, _, _, _, W', _, E1.trans E, I', .ownu _ _ hb', q3⟩
            simp only [appendE, ht, htx, he, if_neg pre, h4, if_neg hm1, h6, ho, Bool.true_eq_false, if_false, if_neg hn1, g1]
            rw [if_pos ⟨trivial, trivial, by omega, .inl trivial⟩]
            rfl
          · rename_i j o n e'
            obtain ⟨⟨⟨hn, rfl, hk⟩, hqt⟩, cs, cs', q1, q2, rfl, q3⟩ := h3
            obtain ⟨b, hb, rfl⟩ := hs.ownq_inv
            have hn1 : ¬ n > 2 ^ 30 := by omega
            obtain ⟨hW, acs, g1, g2⟩ := I.live j e cs b q1 hb
            have hl2 := g2.length
            obtain ⟨E1, I1⟩ := I.kill q1 hb
            obtain ⟨W', E, I', hb'⟩ := I1.push hk (ty := e) (RelCs.ext E1 (All2.append ((g2.drop o).take (n * ei.size)) h7))
            rw [List.length_set] at hb'
            refine ⟨_, _, ?_, _, _, _, W', _, E1.trans E, I', .ownu _ _ hb', q3⟩
            simp only [appendE, ht, htx, he, if_neg pre, h4, if_neg hm1, h6, ho, Bool.true_eq_false, if_false, if_neg hn1, g1]
            rw [if_pos ⟨trivial, trivial, by omega, .inr hqt⟩]
            rfl
          · exact h3.elim
        · split at h
          · rename_i kk kn n hxd
            split at h
            · rename_i zs hz
              obtain ⟨⟨⟨q1, q2⟩, q3, q4, q5, hk⟩, cs, rfl, hK⟩ := h
              have := hs.nils_inv
              subst this
              have := hx.int_inv
              subst this
              have hnl := I.nlim
              obtain ⟨W', E, I', hb⟩ := I.push hk (ty := e) (zeros_flat (cellPs_ok hz) n.toNat)
              refine ⟨_, _, ?_, _, _, _, W', _, E, I', .ownu _ _ hb, hK⟩
              have hp : srcOk (.int kk) = false ∨ ei.bytes > 2 ^ 10 ∨ lim ≤ H.n := .inl rfl
              simp only [appendE, ht, htx, he, hxd, if_pos hp, appendZ]
              rw [if_pos ⟨⟨q1, q2⟩, q3, by omega, q4, q5⟩]
            · exact h.elim
          · exact h.elim
      · exact h.elim
    · exact h.elim
  · exact h.elim
theorem appL_ok (I : Sto H0 W0 c σ k W β H) {ts : List TypeId} {s x : PV} {a b : AV} {K : PV → List StB → Nat → Prop} (h : pappL C c k σ ts s x K) (hs : RelV H W β s a) (hx : RelV H W β x b) :
    ∃ v H', appendE C ts a b H = some (v, H') ∧ Out H0 W0 c W β H K v H' := by
  unfold pappL at h
  split at h
  · rename_i t tx rest
    split at h
    · rename_i e _ _ _ xi ht htx
      split at h
      · rename_i ei he
        split at h
        · rename_i hd
          obtain ⟨hd1, hd2⟩ := of_decide_eq_true hd
          obtain ⟨m, new, ⟨⟨h1, h2⟩, h3⟩, h4, hlen, l, h6, h7⟩ := srcL_ok I h hx
          have hl := h7.length
          have hnl := I.nlim
          have pre : ¬ (srcOk xi.desc = false ∨ ei.bytes > 2 ^ 10 ∨ lim ≤ H.n) := by
            intro hh
            rcases hh with hh | hh | hh
            · rw [hd1] at hh; cases hh
            · omega
            · omega
          have hm1 : ¬ m > 2 ^ 30 := by omega
          have ho := onesV_rel h7 h2
          split at h3
          · have := hs.nils_inv
            subst this
            by_cases hm : m = 0
            · refine ⟨.nils, H, ?_, _, _, _, W, β, Ext.refl _ _ _, I, .nils, h3.1 hm⟩
              simp only [appendE, ht, htx, he, if_neg pre, h4, if_neg hm1, h6, ho, if_pos hm]
              rfl
            · obtain ⟨hk, hK⟩ := h3.2 hm
              obtain ⟨W', E, I', hb⟩ := I.pushG hk (ty := e) (x := .liv e _) ⟨rfl, h7⟩
              refine ⟨_, _, ?_, _, _, _, W', _, E, I', .ownu _ _ hb, hK⟩
              simp only [appendE, ht, htx, he, if_neg pre, h4, if_neg hm1, h6, ho, if_neg hm]
              simp
          · rename_i j o n cap e'
            obtain ⟨hn, h8, h9⟩ := h3
            obtain ⟨b, hb, rfl⟩ := hs.own_inv
            have hn1 : ¬ n > 2 ^ 30 := by omega
            by_cases hc : n + m ≤ cap
            · obtain ⟨ty, cs, cs', q1, q2, rfl, q3⟩ := h8 hc
              obtain ⟨hW, acs, g1, g2⟩ := I.liv j ty cs b q1 hb
              have hl2 := g2.length
              obtain ⟨E, I'⟩ := I.writeG (ty' := ty) q1 (.inr ⟨_, _, rfl⟩) hb (y := .liv ty _) ⟨rfl, spl_rel g2 h7 (o + n * ei.size)⟩
              refine ⟨.sl b o (n + m) cap, _, ?_, _, _, _, W, β, E, I', .own _ _ _ _ hb, q3⟩
              simp only [appendE, ht, htx, he, if_neg pre, h4, if_neg hm1, h6, ho, Bool.true_eq_false, if_false, if_neg hn1, g1, if_pos hc, if_true]
              rw [if_pos (by omega)]
            · obtain ⟨hk, ty, cs, cs', q1, q2, rfl, q3⟩ := h9 (by omega)
              obtain ⟨rw', acs, g1, g2⟩ := I.contV q1 hb
              have hl2 := g2.length
              obtain ⟨W', E, I', hb'⟩ := I.pushG hk (ty := e) (x := .liv e _) ⟨rfl, All2.append ((g2.drop o).take (n * ei.size)) h7⟩
              refine ⟨_, _, ?_, _, _, _, W', _, E, I', .ownu _ _ hb', q3⟩
              simp only [appendE, ht, htx, he, if_neg pre, h4, if_neg hm1, h6, ho, Bool.true_eq_false, if_false, if_neg hn1, g1, if_neg hc]
              rw [if_pos (by omega)]
          · rename_i j n e'
            obtain ⟨⟨hn, rfl, hk⟩, cs, cs', q1, q2, rfl, q3⟩ := h3
            obtain ⟨b, hb, rfl⟩ := hs.ownu_inv
            have hn1 : ¬ n > 2 ^ 30 := by omega
            obtain ⟨hW, acs, g1, g2⟩ := I.liv j e cs b q1 hb
            have hl2 := g2.length
            obtain ⟨E1, I1⟩ := I.killG q1 (.inr ⟨_, _, rfl⟩) hb
            obtain ⟨W', E, I', hb'⟩ := I1.pushG hk (ty := e) (x := .liv e _) ⟨rfl, RelVs.ext E1 (All2.append (g2.take (n * ei.size)) h7)⟩
            rw [List.length_set] at hb'
            refine ⟨_, _, ?_, _, _, _, W', _, E1.trans E, I', .ownu _ _ hb', q3⟩
            simp only [appendE, ht, htx, he, if_neg pre, h4, if_neg hm1, h6, ho, Bool.true_eq_false, if_false, if_neg hn1, g1]
            rw [if_pos ⟨trivial, trivial, by omega, .inl trivial⟩]
            rfl
          · rename_i j o n e'
            obtain ⟨⟨⟨hn, rfl, hk⟩, hqt⟩, cs, cs', q1, q2, rfl, q3⟩ := h3
            obtain ⟨b, hb, rfl⟩ := hs.ownq_inv
            have hn1 : ¬ n > 2 ^ 30 := by omega
            obtain ⟨hW, acs, g1, g2⟩ := I.liv j e cs b q1 hb
            have hl2 := g2.length
            obtain ⟨E1, I1⟩ := I.killG q1 (.inr ⟨_, _, rfl⟩) hb
            obtain ⟨W', E, I', hb'⟩ := I1.pushG hk (ty := e) (x := .liv e _) ⟨rfl, RelVs.ext E1 (All2.append ((g2.drop o).take (n * ei.size)) h7)⟩
            rw [List.length_set] at hb'
            refine ⟨_, _, ?_, _, _, _, W', _, E1.trans E, I', .ownu _ _ hb', q3⟩
            simp only [appendE, ht, htx, he, if_neg pre, h4, if_neg hm1, h6, ho, Bool.true_eq_false, if_false, if_neg hn1, g1]
            rw [if_pos ⟨trivial, trivial, by omega, .inr hqt⟩]
            rfl
          · exact h3.elim
        · exact h.elim
      · exact h.elim
    · exact h.elim
  · exact h.elim
theorem copy_ok (I : Sto H0 W0 c σ k W β H) {ts : List TypeId} {d x : PV} {a b : AV} {K : PV → List StB → Prop} (h : pcopyK C σ ts d x K) (hs : RelV H W β d a) (hx : RelV H W β x b) :
    ∃ v H' r σ', copyE C ts a b H = some (v, H') ∧ Ext W β H W β H' ∧ Sto H0 W0 c σ' k W β H' ∧ RelV H' W β r v ∧ K r σ' := by
  unfold pcopyK at h
  split at h
  · rename_i t rest
    split at h
    · rename_i e _ _ _ ht
      split at h
      · rename_i ei he
        obtain ⟨m, new, h3, h4, hlen, h5⟩ := src_ok I h hx
        split at h3
        · rename_i j o n cp e'
          obtain ⟨ty, cs, cs', q1, ⟨q2, q3, q4⟩, rfl, q5⟩ := h3
          obtain ⟨l, h6, h7⟩ := h5 (min m n) (by omega)
          obtain ⟨p, hb, rfl⟩ := hs.own_inv
          obtain ⟨hW, acs, g1, g2⟩ := I.live j ty cs p q1 hb
          have hl2 := g2.length
          have hl := h7.length
          rw [List.length_take, Nat.min_eq_left q3] at hl
          obtain ⟨E, I'⟩ := I.write (ty' := ty) q1 hb (spl_rel g2 h7 o)
          refine ⟨_, _, _, _, ?_, E, I', .clo (.int _ _), q5⟩
          have hm : Nat.min m n = min m n := rfl
          have hd : lenE (AV.sl p o n cp) = some n := rfl
          simp only [copyE, ht, he, hd, h4, hm, h6, g1]
          rw [if_pos ⟨by omega, ones_rel h7 q4⟩]
        · exact h3.elim
      · exact h.elim
    · exact h.elim
  · exact h.elim
theorem parts_ok {T : List PV} {T' : List AV} : ∀ {ps : List (Nat × Operand)} {K : List (Nat × PV) → Prop}, ppartsK T ps K → (∀ p ∈ ps, TR H W β T T' p.2) →
    ∃ l as, K l ∧ partsE (opd T') ps = some as ∧ All2 (fun (x : Nat × PV) (y : Nat × AV) => x.1 = y.1 ∧ RelV H W β x.2 y.2) l as
  | [], K, h, _ => ⟨[], [], h, rfl, .nil⟩
  | (i, x) :: xs, K, h, hr => by
    obtain ⟨p, h1, h2⟩ := popdK_ok (show popdK T x _ from h)
    obtain ⟨a, h3, h4⟩ := pOp_rel h1 (hr (i, x) (by simp))
    obtain ⟨l, as, h5, h6, h7⟩ := parts_ok h2 fun q hq => hr q (by simp [hq])
    exact ⟨(i, p) :: l, (i, a) :: as, h5, by simp only [partsE, h3, h6], .cons ⟨rfl, h4⟩ h7⟩
theorem frzPK_ok : ∀ {ps : List (Nat × PV)} {σ : List StB} {W : Nat → Prop} {as : List (Nat × AV)} {K : List (Nat × PV) → List StB → Prop}, frzPK σ ps K → Sto H0 W0 c σ k W β H → All2 (fun (x : Nat × PV) (y : Nat × AV) => x.1 = y.1 ∧ RelV H W β x.2 y.2) ps as →
    ∃ ps' σ' W', FrzO H0 W0 c k σ W β H σ' W' ∧ All2 (fun (x : Nat × PV) (y : Nat × AV) => x.1 = y.1 ∧ RelC H W' x.2 y.2) ps' as ∧ K ps' σ'
  | [], σ, W, as, K, h, I, hr => by
    cases hr
    exact ⟨[], σ, W, ⟨Ext.refl _ _ _, I, rfl, fun _ => rfl, fun _ => rfl⟩, .nil, h⟩
  | (i, p) :: ps, σ, W, as, K, h, I, hr => by
    cases hr with
    | cons h1 h2 =>
      obtain ⟨p', σ1, W1, f1, r1, h3⟩ := frzAK_ok (show frzAK σ p _ from h) I h1.2
      obtain ⟨ps', σ2, W2, f2, r2, h4⟩ := frzPK_ok h3 f1.2.1 (All2.mono' (fun _ _ h => ⟨h.1, h.2.ext f1.1⟩) h2)
      exact ⟨(i, p') :: ps', σ2, W2, f1.trans f2, .cons ⟨h1.1, r1.ext f2.1⟩ r2, h4⟩
theorem fillG_ok {R : PV → AV → Prop} (hR : ∀ p a, R p a → All2 R p.pcells a.cells) {place : Nat → Option (Nat × Nat)} : ∀ {ps : List (Nat × PV)} {as : List (Nat × AV)} {cs r : List PV} {acs : List AV}, fillP place cs ps = some r → All2 (R) cs acs → All2 (fun (x : Nat × PV) (y : Nat × AV) => x.1 = y.1 ∧ R x.2 y.2) ps as →
    ∃ racs, fillE place acs as = some racs ∧ All2 (R) r racs
  | [], _, cs, r, acs, h, hc, ha => by
    cases ha
    cases h
    exact ⟨acs, rfl, hc⟩
  | (i, p) :: ps, _, cs, r, acs, h, hc, ha => by
    cases ha with
    | @cons _ y _ ys h1 h2 =>
      obtain ⟨i', a⟩ := y
      obtain ⟨e, hr⟩ := h1
      simp only at e hr
      subst e
      unfold fillP at h
      split at h
      · cases h
      · rename_i off size hp
        split at h
        · cases h
        · rename_i hn
          have hl := (hR _ _ hr).length
          have hl2 := hc.length
          obtain ⟨racs, h3, h4⟩ := fillG_ok hR h (spl_rel hc (hR _ _ hr) off) h2
          refine ⟨racs, ?_, h4⟩
          unfold fillE
          rw [hp]
          simp only
          rw [if_neg (by omega)]
          exact h3
theorem fill_ok {place : Nat → Option (Nat × Nat)} {ps : List (Nat × PV)} {as : List (Nat × AV)} {cs r : List PV} {acs : List AV} (h : fillP place cs ps = some r) (hc : All2 (RelC H W) cs acs) (ha : All2 (fun (x : Nat × PV) (y : Nat × AV) => x.1 = y.1 ∧ RelC H W x.2 y.2) ps as) :
    ∃ racs, fillE place acs as = some racs ∧ All2 (RelC H W) r racs := fillG_ok (fun _ _ h => RelC.cells h) h hc ha
theorem fillV_ok {place : Nat → Option (Nat × Nat)} {ps : List (Nat × PV)} {as : List (Nat × AV)} {cs r : List PV} {acs : List AV} (h : fillP place cs ps = some r) (hc : All2 (RelV H W β) cs acs) (ha : All2 (fun (x : Nat × PV) (y : Nat × AV) => x.1 = y.1 ∧ RelV H W β x.2 y.2) ps as) :
    ∃ racs, fillE place acs as = some racs ∧ All2 (RelV H W β) r racs := fillG_ok (fun _ _ h => RelV.cells h) h hc ha
end
end Go.PI
/- INTEGERS AS LISTS OF ELEMENTS BELOW 10^8 IN SIZE. -/
namespace Go.PI.IM
def val : List Int → Int
  | [] => 0
  | x :: xs => x + 100000000 * val xs
def Top (xs : List Int) : Prop := xs = [] ∨ ∃ ys t, xs = ys ++ [t] ∧ t ≠ 0
def digF : Nat → Nat → List Nat
  | 0, _ => []
  | f + 1, n => if n = 0 then [] else n % 100000000 :: digF f (n / 100000000)
def digN (n : Nat) : List Nat := digF (n.log2 / 26 + 1) n
def digits (v : Int) : List Int :=
  match v with
  | .ofNat n => (digN n).map Int.ofNat
  | .negSucc n => (digN (n + 1)).map fun k => - Int.ofNat k
structure Nrm (xs : List Int) : Prop where
  side : (∀ x ∈ xs, 0 ≤ x ∧ x < 100000000) ∨ (∀ x ∈ xs, -100000000 < x ∧ x ≤ 0)
  top : Top xs
end Go.PI.IM
/- SLICES OF INTEGERS IN THE HEAP OF OUR OWN. -/
namespace Go.PI
open IM
def ints (xs : List Int) : List AV := xs.map (AV.int .i64)
theorem ints_length (xs : List Int) : (ints xs).length = xs.length := by simp [ints]
def Sl (H : Heap) (v : AV) (xs : List Int) : Prop :=
  match v with
  | .nils => xs = []
  | .sle => xs = []
  | .sl b o l _ => l = xs.length ∧ ∃ rw ty cs, H.get b = .cells rw ty cs ∧ o + l ≤ cs.length ∧ (cs.drop o).take l = ints xs
  | .slu b o l e => e = 1 ∧ l = xs.length ∧ ∃ rw ty cs, H.get b = .cells rw ty cs ∧ o + l ≤ cs.length ∧ (cs.drop o).take l = ints xs
  | _ => False
def blk (v : AV) : Nat :=
  match v with
  | .sl b _ _ _ => b
  | .slu b _ _ _ => b
  | _ => 0
theorem Sl.mono {H H' : Heap} {v : AV} {xs : List Int} (h : Sl H v xs) (k : ∀ A, A < H.n → H'.get A = H.get A) : Sl H' v xs := by
  unfold Sl at *
  split at h <;> try exact h
  · obtain ⟨h1, rw, ty, cs, h2, h3⟩ := h
    exact ⟨h1, rw, ty, cs, by rw [k _ (Heap.lt_of_get (by rw [h2]; simp))]; exact h2, h3⟩
  · obtain ⟨h0, h1, rw, ty, cs, h2, h3⟩ := h
    exact ⟨h0, h1, rw, ty, cs, by rw [k _ (Heap.lt_of_get (by rw [h2]; simp))]; exact h2, h3⟩
structure Upd (H : Heap) (b : Nat) (x : Blk) (H' : Heap) : Prop where
  n : H'.n = H.n
  at_ : H'.get b = x
  other : ∀ A, A ≠ b → H'.get A = H.get A
theorem Upd.trans {H H' H'' : Heap} {b : Nat} {x y : Blk} (h : Upd H b x H') (k : Upd H' b y H'') : Upd H b y H'' :=
  ⟨k.n.trans h.n, k.at_, fun A hA => (k.other A hA).trans (h.other A hA)⟩
theorem Upd.refl {H : Heap} {b : Nat} {x : Blk} (h : H.get b = x) : Upd H b x H := ⟨rfl, h, fun _ _ => rfl⟩
theorem take_snoc {xs : List Int} {i : Nat} {x : Int} (h : xs[i]? = some x) : xs.take (i + 1) = xs.take i ++ [x] := by
  rw [List.take_add_one, h]; rfl
end Go.PI
