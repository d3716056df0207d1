/- Own work of the verifier: PiDr2 PiDr4 PvVc. -/
import Derived.Test.YtefajaiioljjoaaOwAK
import Derived.Test.YtefajaiioljjoaaOwAO
set_option linter.all false
set_option exponentiation.threshold 3000
set_option linter.deprecated false
/- OPEN REGIONS: what there was is there up to boundary c, and no load may come up behind it. -/
namespace Go.PI
def grC (H0 : Heap) (c : Nat) : List (List AV × Heap) → Nat → Prop
  | [], _ => True
  | x :: r, p => (match Nat.ble p c with
    | true => ∀ A, A < H0.n → x.2.get A = H0.get A
    | false => True) ∧ grC H0 c r (p + 1)
def noneFrom (C : Ctx) (ops : List Oper) (pre : List Nat) (i : Nat) : Nat → Nat → Bool
  | _, 0 => true
  | p, n + 1 => !(isBd C ops p && mayAt C ops pre i p ops 0) && noneFrom C ops pre i (p + 1) n
def lastOk2 (C : Ctx) (ops : List Oper) (pre : List Nat) (c m : Nat) : List Oper → Nat → Bool
  | [], _ => true
  | o :: os, i => (!isLoad o || (Nat.ble i c && noneFrom C ops pre i (c + 1) (m - c))) && lastOk2 C ops pre c m os (i + 1)
theorem none_of {C : Ctx} {ops : List Oper} {pre : List Nat} {i : Nat} : ∀ (n p : Nat), noneFrom C ops pre i p n = true → ∀ p', p ≤ p' → p' < p + n → (isBd C ops p' && mayAt C ops pre i p' ops 0) = false
  | 0, p, _, p', h1, h2 => by omega
  | n + 1, p, h, p', h1, h2 => by
    simp only [noneFrom, Bool.and_eq_true, Bool.not_eq_true'] at h
    by_cases hp : p' = p
    · subst hp; exact h.1
    · exact none_of n (p + 1) h.2 p' (by omega) (by omega)
theorem loadAts_of2 {C : Ctx} {ops : List Oper} {pre : List Nat} {i : Nat} {t : TypeId} {b off : Nat} {v : AV} {H0 : Heap} {c m : Nat} (hb : b < H0.n) (hl : loadE C t (.ptr b off) H0 = some v) (hs : v.same v = true)
    (hlast : ∀ p', c + 1 ≤ p' → p' ≤ m → (isBd C ops p' && mayAt C ops pre i p' ops 0) = false) :
    ∀ (tr : List (List AV × Heap)) (p : Nat), grC H0 c tr p → p + tr.length = m + 1 → loadAts C ops pre i t (.ptr b off) v tr p = true
  | [], _, _, _ => rfl
  | (T, H) :: r, p, hg, hp => by
    simp only [loadAts]
    simp at hp
    rw [loadAts_of2 hb hl hs hlast r (p + 1) hg.2 (by omega), Bool.and_true]
    cases hc : Nat.ble p c with
    | true =>
      have hg1 := hg.1
      rw [hc] at hg1
      rw [load_get (hg1 b hb), hl]
      simp [hs]
    | false =>
      have : ¬ p ≤ c := fun h => by rw [Nat.ble_eq_true_of_le h] at hc; cases hc
      rw [hlast p (by omega) (by omega)]
      simp
theorem loads_of2 {C : Ctx} {ops : List Oper} {pre : List Nat} {all : List (List AV × Heap)} {H0 : Heap} {c m : Nat} (hall : grC H0 c all 0) (hlen : all.length = m + 1) (hcm : c ≤ m) : ∀ (os : List Oper) (tr : List (List AV × Heap)) (i : Nat), ldsP C ops H0 os tr → grC H0 c tr i → lastOk2 C ops pre c m os i = true → loadsOk C ops pre all os tr i = true
  | [], tr, _, _, _, _ => by cases tr <;> rfl
  | o :: os, [], _, _, _, _ => rfl
  | o :: os, (T, H) :: tr, i, h, hg, hlast => by
    simp only [lastOk2, Bool.and_eq_true] at hlast
    simp only [loadsOk]
    rw [loads_of2 hall hlen hcm os tr (i + 1) h.2 hg.2 hlast.2, Bool.and_true]
    have h1 := h.1
    cases ho : o.op <;> simp only [ho] at h1 ⊢
    rename_i t x
    cases hw : Region.wanted o (ayielded ops T) with
    | false => simp
    | true =>
      simp only [hw] at h1
      obtain ⟨b, off, v, e1, e2, e3, e4⟩ := h1
      simp only [if_true, e1]
      have hl1 := hlast.1
      simp only [isLoad, ho, Bool.not_true, Bool.false_or, Bool.and_eq_true] at hl1
      have hg1 := hg.1
      rw [hl1.1] at hg1
      rw [load_get (hg1 b e2), e3]
      exact loadAts_of2 (m := m) e2 e3 e4 (fun p' q1 q2 => none_of _ _ hl1.2 p' q1 (by omega)) all 0 hall (by omega)
def atsP (b : Nat) (H0 : Heap) : List Bool → List (List AV × Heap) → Prop
  | true :: ms, x :: r => x.2.get b = H0.get b ∧ atsP b H0 ms r
  | false :: ms, _ :: r => atsP b H0 ms r
  | _, _ => True
def ldsM (C : Ctx) (ops : List Oper) (all : List (List AV × Heap)) : List (List Bool) → List Oper → List (List AV × Heap) → Prop
  | m :: ms, o :: os, (T, H) :: tr => (match o.op with
    | .load t x => (match Region.wanted o (ayielded ops T) with
      | true => ∃ b off v, opd T x = some (.ptr b off) ∧ loadE C t (.ptr b off) H = some v ∧ v.same v = true ∧ atsP b H m all
      | false => True)
    | _ => True) ∧ ldsM C ops all ms os tr
  | _, _, _ => True
def rowOk (C : Ctx) (ops : List Oper) (pre : List Nat) (i : Nat) : List Bool → Nat → Bool
  | [], p => Nat.beq p (ops.length + 1)
  | b :: bs, p => (!(isBd C ops p && mayAt C ops pre i p ops 0) || b) && rowOk C ops pre i bs (p + 1)
def msOk (C : Ctx) (ops : List Oper) (pre : List Nat) : List (List Bool) → List Oper → Nat → Bool
  | b :: bs, o :: os, i => (!isLoad o || rowOk C ops pre i b 0) && msOk C ops pre bs os (i + 1)
  | [], [], _ => true
  | _, _, _ => false
theorem loadAts_of3 {C : Ctx} {ops : List Oper} {pre : List Nat} {i : Nat} {t : TypeId} {b off : Nat} {v : AV} {H0 : Heap} (hl : loadE C t (.ptr b off) H0 = some v) (hs : v.same v = true) :
    ∀ (ms : List Bool) (tr : List (List AV × Heap)) (p : Nat), rowOk C ops pre i ms p = true → p + tr.length = ops.length + 1 → atsP b H0 ms tr → loadAts C ops pre i t (.ptr b off) v tr p = true
  | _, [], _, _, _, _ => rfl
  | [], (T, H) :: r, p, hr, hp, _ => by
    simp only [rowOk] at hr
    have := Nat.eq_of_beq_eq_true hr
    simp at hp; omega
  | m :: ms, (T, H) :: r, p, hr, hp, ha => by
    simp only [rowOk, Bool.and_eq_true] at hr
    simp only [loadAts]
    simp at hp
    cases m with
    | true =>
      rw [loadAts_of3 hl hs ms r (p + 1) hr.2 (by omega) ha.2, Bool.and_true, load_get ha.1, hl]
      simp [hs]
    | false =>
      rw [loadAts_of3 hl hs ms r (p + 1) hr.2 (by omega) ha, Bool.and_true]
      have h1 := hr.1
      rw [Bool.or_false] at h1
      rw [h1, Bool.true_or]
theorem loads_of3 {C : Ctx} {ops : List Oper} {pre : List Nat} {all : List (List AV × Heap)} (hlen : all.length = ops.length + 1) : ∀ (ms : List (List Bool)) (os : List Oper) (tr : List (List AV × Heap)) (i : Nat), msOk C ops pre ms os i = true → ldsM C ops all ms os tr → loadsOk C ops pre all os tr i = true
  | _, [], tr, _, _, _ => by cases tr <;> rfl
  | _, o :: os, [], _, _, _ => rfl
  | [], o :: os, (T, H) :: tr, i, hm, _ => by simp [msOk] at hm
  | m :: ms, o :: os, (T, H) :: tr, i, hm, h => by
    simp only [msOk, Bool.and_eq_true] at hm
    simp only [loadsOk]
    rw [loads_of3 hlen ms os tr (i + 1) hm.2 h.2, Bool.and_true]
    have h1 := h.1
    cases ho : o.op <;> simp only [ho] at h1 ⊢
    rename_i t x
    cases hw : Region.wanted o (ayielded ops T) with
    | false => simp
    | true =>
      simp only [hw] at h1
      obtain ⟨b, off, v, e1, e2, e3, e4⟩ := h1
      simp only [if_true, e1, e2]
      have hl1 := hm.1
      simp only [isLoad, ho, Bool.not_true, Bool.false_or] at hl1
      exact loadAts_of3 e2 e3 m all 0 hl1 (by omega) e4
end Go.PI
/- OPEN REGIONS WITH ALLOCATIONS behind which no operation of effect may come up ahead of them. -/
namespace Go.PI
def alBd (C : Ctx) (ops : List Oper) (pre : List Nat) (i : Nat) : Nat → Nat → Bool
  | _, 0 => true
  | p, n + 1 => !(isBd C ops p && decide (i < p) && mayAt C ops pre i p ops 0) && alBd C ops pre i (p + 1) n
def alNone (C : Ctx) (ops : List Oper) (pre : List Nat) : List Oper → Nat → Bool
  | [], _ => true
  | o :: os, i => (match kindOf C o.op with | .alloc => alBd C ops pre i 0 (ops.length + 1) | _ => true) && alNone C ops pre os (i + 1)
def alsP (C : Ctx) (ops : List Oper) : List Oper → List (List AV × Heap) → Prop
  | o :: os, (T, _) :: tr => (match kindOf C o.op with
    | .alloc => (match Region.wanted o (ayielded ops T) with
      | true => ∃ ty cs f, allocE C (opd T) o.op = some (.cells true ty cs, f)
      | false => True)
    | _ => True) ∧ alsP C ops os tr
  | _, _ => True
theorem allocAts_of4 {C : Ctx} {ops : List Oper} {pre : List Nat} {i A : Nat} {ty : TypeId} {cs : List AV} : ∀ (tr : List (List AV × Heap)) (p n : Nat), alBd C ops pre i p n = true → tr.length ≤ n → allocAts C ops pre i A ty cs tr p = true
  | [], _, _, _, _ => rfl
  | (T, H) :: r, p, 0, _, hl => by simp at hl
  | (T, H) :: r, p, n + 1, h, hl => by
    simp only [alBd, Bool.and_eq_true] at h
    simp only [allocAts]
    rw [allocAts_of4 r (p + 1) n h.2 (by simpa using hl), Bool.and_true, h.1, Bool.true_or]
theorem allocs_of4 {C : Ctx} {ops : List Oper} {pre : List Nat} {all : List (List AV × Heap)} (hlen : all.length = ops.length + 1) : ∀ (os : List Oper) (tr : List (List AV × Heap)) (i : Nat), alNone C ops pre os i = true → alsP C ops os tr → allocsOk C ops pre all os tr i = true
  | [], tr, _, _, _ => by cases tr <;> rfl
  | o :: os, [], _, _, _ => rfl
  | o :: os, (T, H) :: tr, i, h, ha => by
    simp only [alNone, Bool.and_eq_true] at h
    simp only [allocsOk]
    rw [allocs_of4 hlen os tr (i + 1) h.2 ha.2, Bool.and_true]
    have h1 := h.1
    have h2 := ha.1
    cases hk : kindOf C o.op <;> simp only [hk] at h1 h2 ⊢
    cases hw : Region.wanted o (ayielded ops T) with
    | false => simp
    | true =>
      simp only [hw] at h2
      obtain ⟨ty, cs, f, he⟩ := h2
      simp only [if_true, he]
      exact allocAts_of4 all 0 _ h1 (by omega)
def growS4 (C : Ctx) (ops : List Oper) (ms : List (List Bool)) : Bool := orderOk C ops (preList ops []) ops 0 && msOk C ops (preList ops []) ms ops 0 && alNone C ops (preList ops []) ops 0
theorem draw_of4 {C : Ctx} {ops : List Oper} {tr : List (List AV × Heap)} (ms : List (List Bool)) (hs : growS4 C ops ms = true) (hlen : tr.length = ops.length + 1) (hl : ldsM C ops tr ms ops tr) (ha : alsP C ops ops tr) (hm : mnP tr) : drawOk C ops tr = true := by
  simp only [growS4, Bool.and_eq_true] at hs
  unfold drawOk
  simp only [hs.1.1, loads_of3 hlen ms ops tr 0 hs.1.2 hl, allocs_of4 hlen ops tr 0 hs.2 ha, mono_of hm, Bool.and_self]
end Go.PI
/- PLAIN VALUES: what is to be shown of a piece of code. -/
namespace Go.PI
def Cfu (C : Ctx) (g : FuncId) (ps : List PV) (c : Nat) (Q : TypeId → Nat → Nat → List PV → Prop) : Prop :=
  ∀ (H : Heap) (W : Nat → Prop) (as : List AV), (∀ b, W b → b < H.n) → All2 (RelC H W) ps as → H.n + c < lim → Cl C g as H fun v H' =>
    ∃ ty n e cs b acs, Q ty n e cs ∧ v = .slu b 0 n e ∧ H.n ≤ b ∧ b < H'.n ∧ H'.get b = .cells true ty acs ∧ All2 (RelC H' fun A => W A ∨ A = b) cs acs ∧ KpH H H' c
structure pcallK (C : Ctx) (c k : Nat) (σ : List StB) (g : FuncId) (ps : List PV) (K : PV → List StB → Nat → Prop) : Prop where
  out : ∃ d, k + d ≤ c ∧ ((∃ Q, Ct C g ps d Q ∧ ∀ r, Q r → K r σ (k + d)) ∨
    (∃ Q, Cfr C g ps d Q ∧ ∀ ty n cp e cs, Q ty n cp e cs → K (.own σ.length 0 n cp e) (σ ++ [.live ty cs]) (k + d)) ∨
    (∃ Q, Cfu C g ps d Q ∧ ∀ ty n e cs, Q ty n e cs → K (.ownu σ.length n e) (σ ++ [.live ty cs]) (k + d)))
structure Opn where
  b : TypeId → Bool
  s : TypeId → Bool
  /-- in open regions with appends: what is written is asked for -/
  a : Bool
def Opn.no : Opn := ⟨fun _ => false, fun _ => false, false⟩
def elOf (C : Ctx) (t : TypeId) : Option TypeId :=
  match C.ty t with
  | some { desc := .slice e, .. } => some e
  | _ => none
def opEl (O : Opn) (C : Ctx) (t : TypeId) : Bool :=
  match elOf C t with
  | some e => O.b e && !(O.b (e + 100000))
  | none => false
structure ArgK (dr : Bool) (C : Ctx) (c k : Nat) (σ : List StB) (g : FuncId) (ps : List PV) (K : PV → List StB → Nat → Prop) : Prop where
  out : (frzAsK σ ps fun ps' σ' => pcallK C c k σ' g ps' K) ∨ (lendsK σ ps fun ps' σ' => ∃ d Q, k + d ≤ c ∧ Cb C g ps' d Q ∧ ∀ r, Q r → K r σ' (k + d)) ∨
    (dr = false ∧ ∃ js, sealsK σ js fun σ1 => (frzAsK σ1 ps fun ps' σ' => pcallK C c k σ' g ps' K) ∨ (∃ ms, frzmK σ1 ms ps fun ps' σ2 => ∃ d Q, k + d ≤ c ∧ Cm C g ps' σ2 d Q ∧ ∀ r σ', Q r σ' → K r σ' (k + d)))
def Cy (C : Ctx) (i : Nat) (ps : List PV) (σ : List StB) (d : Nat) (Q : Bool → List StB → Prop) : Prop :=
  ∀ (H0 : Heap) (W0 : Nat → Prop) (c k : Nat) (W : Nat → Prop) (β : List Nat) (H : Heap) (as : List AV) (l : Nat), Sto H0 W0 c σ k W β H → k + d ≤ c → β[i]? = some l → All2 (RelV H W β) ps as → ∃ n v H', yieldF (ev C n) l as H = some (v, H') ∧
    ∃ r σ' k' W' β', Ext W β H W' β' H' ∧ Sto H0 W0 c σ' k' W' β' H' ∧ v = .bool r ∧ Q r σ' ∧ k' ≤ k + d
theorem Cy.post {C : Ctx} {i : Nat} {ps : List PV} {σ : List StB} {d d' : Nat} {Q Q' : Bool → List StB → Prop} (h : Cy C i ps σ d Q) (hd : d ≤ d') (hq : ∀ r σ', Q r σ' → Q' r σ') : Cy C i ps σ d' Q' := fun H0 W0 c k W β H as l I hc hl hr => by
  obtain ⟨n, v, H', h0, r, σ', k', W', β', h1, h2, h3, h4, h5⟩ := h H0 W0 c k W β H as l I (by omega) hl hr
  exact ⟨n, v, H', h0, r, σ', k', W', β', h1, h2, h3, hq r σ' h4, by omega⟩
structure YldK (dr : Bool) (C : Ctx) (c k : Nat) (σ : List StB) (i : Nat) (ps : List PV) (K : PV → List StB → Nat → Prop) : Prop where
  out : dr = false ∧ ∃ js, sealsK σ js fun σ1 => ∃ ms, frzmK σ1 ms ps fun ps' σ2 => ∃ d Q, k + d ≤ c ∧ Cy C i ps' σ2 d Q ∧ ∀ r σ', Q r σ' → K (.bool r) σ' (k + d)
structure PartK (σ : List StB) (l : List (Nat × PV)) (K : List (Nat × PV) → List StB → Prop) : Prop where
  out : frzPK σ l K
structure AppK (C : Ctx) (c k : Nat) (σ : List StB) (ts : List TypeId) (s x : PV) (K : PV → List StB → Nat → Prop) : Prop where
  out : pappK C c k σ ts s x K
structure AppLK (C : Ctx) (c k : Nat) (σ : List StB) (ts : List TypeId) (s x : PV) (K : PV → List StB → Nat → Prop) : Prop where
  out : pappL C c k σ ts s x K
def wOp (O : Opn) (C : Ctx) (c : Nat) (dr : Bool) (T : List PV) (σ : List StB) (k : Nat) (op : Op) (K : PV → List StB → Nat → Prop) : Prop :=
  match op with
  | .load t a => popdK T a fun p => ∃ v, ploadE C σ t p = some v ∧ match dr with
    | true => smP v = true ∧ K v σ k
    | false => K v σ k
  | .store t a v => popdK T a fun a => popdK T v fun v => match O.s t with
    | true => pstoreL C σ t a v fun σ'' => K undefP σ'' k
    | false => frzAK σ v fun v' σ' => pstoreK C σ' t a v' fun σ'' => K undefP σ'' k
  | .build t ps => ppartsK T ps.toList fun l => match O.s t with
   | true => match C.ty t with
    | some i => match cellVs i.zero.cells with
      | some zs => match i.desc with
        | .struct fs => match placesE C fs.toList with
          | some pl => ∃ cs, fillP (fun k => pl[k]?) zs l = some cs ∧ K (.agg cs) σ k
          | none => False
        | .array _ e => match C.ty e with
          | some ei => ∃ cs, fillP (fun k => some (k * ei.size, ei.size)) zs l = some cs ∧ K (.agg cs) σ k
          | none => False
        | _ => False
      | none => False
    | none => False
   | false => PartK σ l fun l' σ' => match C.ty t with
    | some i => match cellPs i.zero.cells with
      | some zs => match i.desc with
        | .struct fs => match placesE C fs.toList with
          | some pl => ∃ cs, fillP (fun k => pl[k]?) zs l' = some cs ∧ K (.agg cs) σ' k
          | none => False
        | .array _ e => match C.ty e with
          | some ei => ∃ cs, fillP (fun k => some (k * ei.size, ei.size)) zs l' = some cs ∧ K (.agg cs) σ' k
          | none => False
        | _ => False
      | none => False
    | none => False
  | .alloc e => k < c ∧ match C.ty e with
    | some i => match O.b e with
      | true => match cellVs i.zero.cells with
        | some cs => K (.optr σ.length 0) (σ ++ [.liv e cs]) (k + 1)
        | none => False
      | false => match cellPs i.zero.cells with
        | some cs => K (.optr σ.length 0) (σ ++ [.live e cs]) (k + 1)
        | none => False
    | none => False
  | .box e x => k < c ∧ popdK T x fun v => match O.b e with
    | true => match C.ty e with
      | some _ => K (.optr σ.length 0) (σ ++ [.liv e v.pcells]) (k + 1)
      | none => False
    | false => frzAK σ v fun v' σ' => match C.ty e with
      | some _ => K (.optr σ'.length 0) (σ' ++ [.live e v'.pcells]) (k + 1)
      | none => False
  | .makeSlice t l cp => k < c ∧ popdK T l fun l => popdK T cp fun cp => match C.ty t with
    | some { desc := .slice e, .. } => match C.ty e with
      | some ei => match O.b e with
       | true => match cellVs ei.zero.cells with
        | some zs => match decide (ei.bytes ≤ 2 ^ 10 ∧ ei.zero.cells.length = ei.size) with
          | true => match l, cp with
            | .int .i64 l, .int .i64 cp => (0 ≤ l ∧ l ≤ cp ∧ cp ≤ 2 ^ 30) ∧ ∃ cs, (List.replicate cp.toNat zs).flatten = cs ∧ K (.own σ.length 0 l.toNat cp.toNat ei.size) (σ ++ [.liv e cs]) (k + 1)
            | _, _ => False
          | false => False
        | none => False
       | false => match cellPs ei.zero.cells with
        | some zs => match decide (ei.bytes ≤ 2 ^ 10 ∧ ei.zero.cells.length = ei.size) with
          | true => match l, cp with
            | .int .i64 l, .int .i64 cp => (0 ≤ l ∧ l ≤ cp ∧ cp ≤ 2 ^ 30) ∧ ∃ cs, (List.replicate cp.toNat zs).flatten = cs ∧ K (.own σ.length 0 l.toNat cp.toNat ei.size) (σ ++ [.live e cs]) (k + 1)
            | _, _ => False
          | false => False
        | none => False
      | none => False
    | _ => False
  | .buildSlice t len ps => k < c ∧ ppartsK T ps.toList fun l => match opEl O C t with
   | true => match C.ty t with
    | some { desc := .slice e, .. } => match C.ty e with
      | some ei => match cellVs ei.zero.cells with
        | some zs => match decide (len * ei.size ≤ 2 ^ 20 ∧ ei.zero.cells.length = ei.size) with
          | true => ∃ cs, fillP (fun i => some (i * ei.size, ei.size)) (List.replicate len zs).flatten l = some cs ∧ K (.own σ.length 0 len len ei.size) (σ ++ [.liv e cs]) (k + 1)
          | false => False
        | none => False
      | none => False
    | _ => False
   | false => PartK σ l fun l' σ' => match C.ty t with
    | some { desc := .slice e, .. } => match C.ty e with
      | some ei => match cellPs ei.zero.cells with
        | some zs => match decide (len * ei.size ≤ 2 ^ 20 ∧ ei.zero.cells.length = ei.size) with
          | true => ∃ cs, fillP (fun i => some (i * ei.size, ei.size)) (List.replicate len zs).flatten l' = some cs ∧ K (.own σ'.length 0 len len ei.size) (σ' ++ [.live e cs]) (k + 1)
          | false => False
        | none => False
      | none => False
    | _ => False
  | .makeMap t none => match dr with
    | true => False
    | false => pmakeK C c k σ t K
  | .lookup t m key ok => popdK T m fun m => popdK T key fun key => plookK C σ t m key ok fun r => K r σ k
  | .mapUpdate t m key v => match dr with
    | true => False
    | false => popdK T m fun m => popdK T key fun key => popdK T v fun v => pupdK C σ t m key v fun σ' => K undefP σ' k
  | .insert t m key v => match dr with
    | true => False
    | false => popdK T m fun m => popdK T key fun key => popdK T v fun v => pupdK C σ t m key v fun σ' => K undefP σ' k
  | .call { callee := .builtin .len, args, argTypes } => match isMap C argTypes.toList with
    | true => match dr with
      | true => False
      | false => popdsK T args.toList fun ps => plenK σ ps fun v => K v σ k
    | false => purK C T (.call { callee := .builtin .len, args, argTypes }) fun v => K v σ k
  | .call { callee := .builtin .append, args, argTypes } => popdsK T args.toList fun avs => match avs with
    | [s, x] => match opEl O C (argTypes.toList.headD 0) with
      | true => AppLK C c k σ argTypes.toList s x K
      | false => AppK C c k σ argTypes.toList s x K
    | _ => False
  | .call { callee := .builtin .copy, args, argTypes } => popdsK T args.toList fun avs => match avs with
    | [d, x] => pcopyK C σ argTypes.toList d x fun v σ' => K v σ' k
    | _ => False
  | .call { callee := .value f, args, argTypes := _ } => popdK T f fun f => match f with
    | .fn g => popdsK T args.toList fun ps => ArgK dr C c k σ g ps K
    | .fnc g cs => popdsK T args.toList fun ps => ArgK dr C c k σ g (ps ++ cs) K
    | .yld i => popdsK T args.toList fun ps => YldK dr C c k σ i ps K
    | _ => False
  | op => purK C T op fun v => K v σ k
def quietOp : Op → Bool
  | .store _ _ _ => false
  | .call { callee := .builtin .append, .. } => false
  | .call { callee := .builtin .copy, .. } => false
  | _ => true
section
variable {C : Ctx} {H0 H : Heap} {W0 W : Nat → Prop} {c k : Nat} {σ : List StB} {β : List Nat}
def Quiet (σ : List StB) (H : Heap) (σ' : List StB) (H' : Heap) : Prop := (∀ A, A < H.n → H'.get A = H.get A) ∧ σ.length ≤ σ'.length ∧ (∀ j, j < σ.length → contOf σ' j = contOf σ j) ∧ ∀ j, j < σ.length → livOf σ' j = livOf σ j
theorem livOf_push {σ : List StB} {x : StB} {j : Nat} (hj : j < σ.length) : livOf (σ ++ [x]) j = livOf σ j := by
  unfold livOf
  rw [List.getElem?_append_left hj]
theorem contOf_pushx {σ : List StB} {x : StB} {j : Nat} (hj : j < σ.length) : contOf (σ ++ [x]) j = contOf σ j := by
  unfold contOf
  rw [List.getElem?_append_left hj]
theorem Quiet.trans {σ σ1 σ2 : List StB} {H H1 H2 : Heap} (a : Quiet σ H σ1 H1) (b : Quiet σ1 H1 σ2 H2) (hn : H.n ≤ H1.n) : Quiet σ H σ2 H2 :=
  ⟨fun A hA => by rw [b.1 A (by omega)]; exact a.1 A hA, Nat.le_trans a.2.1 b.2.1, fun j hj => (b.2.2.1 j (Nat.lt_of_lt_of_le hj a.2.1)).trans (a.2.2.1 j hj), fun j hj => (b.2.2.2 j (Nat.lt_of_lt_of_le hj a.2.1)).trans (a.2.2.2 j hj)⟩
def OutQ (H0 : Heap) (W0 : Nat → Prop) (c : Nat) (W : Nat → Prop) (β : List Nat) (σ : List StB) (H : Heap) (q : Bool) (K : PV → List StB → Nat → Prop) (v : AV) (H' : Heap) : Prop :=
  ∃ r σ' k' W' β', Ext W β H W' β' H' ∧ Sto H0 W0 c σ' k' W' β' H' ∧ RelV H' W' β' r v ∧ K r σ' k' ∧ (q = true → Quiet σ H σ' H')
theorem Quiet.refl (σ : List StB) (H : Heap) : Quiet σ H σ H := ⟨fun _ _ => rfl, Nat.le_refl _, fun _ _ => rfl, fun _ _ => rfl⟩
theorem frz_quiet {σ' : List StB} {W' : Nat → Prop} (f : FrzO H0 W0 c k σ W β H σ' W') : Quiet σ H σ' H := ⟨fun _ _ => rfl, by rw [f.2.2.1]; exact Nat.le_refl _, fun j _ => f.2.2.2.1 j, fun j _ => f.2.2.2.2 j⟩
theorem push_quiet {σ1 : List StB} (q : Quiet σ H σ1 H) (hn : H.n < lim) {b : Blk} {x : StB} : Quiet σ H (σ1 ++ [x]) (H.push b) :=
  q.trans ⟨fun A hA => by rw [Heap.get_push hn, if_neg (by omega)], by simp, fun j hj => contOf_pushx hj, fun j hj => livOf_push hj⟩ (Nat.le_refl _)
theorem zerosV_flat {W : Nat → Prop} {β : List Nat} {zs : List PV} {avs : List AV} (h : All2 (RelV H W β) zs avs) (n : Nat) : All2 (RelV H W β) (List.replicate n zs).flatten (List.replicate n avs).flatten := by
  induction n with
  | zero => exact .nil
  | succ n ih => rw [List.replicate_succ, List.replicate_succ, List.flatten_cons, List.flatten_cons]; exact All2.append h ih
theorem call_ok (I : Sto H0 W0 c σ k W β H) {g : FuncId} {ps : List PV} {avs : List AV} {K : PV → List StB → Nat → Prop} (h : pcallK C c k σ g ps K) (hr : All2 (RelC H W) ps avs) :
    ∃ n v H', call C n g avs H = some (v, H') ∧ OutQ H0 W0 c W β σ H true K v H' := by
  obtain ⟨d, hd, h | h | h⟩ := h.out
  · obtain ⟨Q, h1, h2⟩ := h
    have h3 := h1 H W avs I.wlt hr (by have := I.hi; have := I.room; omega)
    obtain ⟨n, v, H', h4, r, h5, h6, h7⟩ := h3
    obtain ⟨E, I'⟩ := I.call h7 hd
    exact ⟨n, v, H', h4, r, σ, _, W, β, E, I', .clo h6, h2 r h5, fun _ => ⟨h7.2.2, Nat.le_refl _, fun _ _ => rfl, fun _ _ => rfl⟩⟩
  · obtain ⟨Q, h1, h2⟩ := h
    have h3 := h1 H W avs I.wlt hr (by have := I.hi; have := I.room; omega)
    obtain ⟨n, v, H', h4, ty, m, cp, e, cs, b, acs, h5, rfl, h6, h6', h7, h8, h9⟩ := h3
    obtain ⟨E, I'⟩ := I.call h9 hd
    have hne : ∀ i : Nat, β[i]? ≠ some b := fun i hi => by
      have := (I.bl i b hi).2; omega
    have hlo := I.lo
    have E2 : Ext W β H (fun A => W A ∨ A = b) (β ++ [b]) H' := ⟨E.n, E.get, fun A hA hw => by
      rcases hw with hw | hw
      · exact hw
      · omega, fun i x hx => by rw [List.getElem?_append_left (List.getElem?_eq_some_iff.1 hx).1]; exact hx, fun A hA _ => h9.2.2 A hA, fun i x hx hl => by
      rcases Nat.lt_or_ge i β.length with h | h
      · rw [List.getElem?_append_left h] at hx
        exact ⟨i, hx⟩
      · rw [List.getElem?_append_right h] at hx
        cases hz : i - β.length with
        | zero => rw [hz] at hx; simp at hx; omega
        | succ z => rw [hz] at hx; simp at hx⟩
    have I2 := I'.adopt (b := b) (by omega) hne h7 h8 (fun i t l x hl hx rw' a ha _ => by
      have hb := I.bl i x hx
      rcases hl with hl | hl
      · obtain ⟨q1, a', q2, q3⟩ := I.live i t l x hl hx
        rw [h9.2.2 x hb.2, q2] at ha
        cases ha
        exact RelCs.ext E2 q3
      · obtain ⟨q1, r', a', q2, q3⟩ := I.frz i t l x hl hx
        rw [h9.2.2 x hb.2, q2] at ha
        cases ha
        exact RelCs.ext E2 q3
    ) (fun i t l x hl hx a ha => by
      have hb := I.bl i x hx
      obtain ⟨q1, a', q2, q3⟩ := I.liv i t l x hl hx
      rw [h9.2.2 x hb.2, q2] at ha
      cases ha
      exact RelVs.ext E2 q3) (fun i t l x hl hx a ha => by
      have hb := I.bl i x hx
      obtain ⟨q1, a', q2, q3⟩ := I.map i t l x hl hx
      rw [h9.2.2 x hb.2, q2] at ha
      cases ha
      exact EntPs.ext E2 q3) (fun i l x hl hx L ha _ => by
      have hb := I.bl i x hx
      obtain ⟨q1, a', q2, q3⟩ := I.lop i l x hl hx
      rw [h9.2.2 x hb.2, q2] at ha
      cases ha
      exact q3.ext E2)
    refine ⟨n, _, H', h4, _, _, _, _, _, E2, I2, .own _ _ _ _ (by rw [← I.len]; simp), h2 ty m cp e cs h5, fun _ => ⟨h9.2.2, by simp, fun j hj => contOf_push hj, fun j hj => livOf_push hj⟩⟩
  · obtain ⟨Q, h1, h2⟩ := h
    have h3 := h1 H W avs I.wlt hr (by have := I.hi; have := I.room; omega)
    obtain ⟨n, v, H', h4, ty, m, e, cs, b, acs, h5, rfl, h6, h6', h7, h8, h9⟩ := h3
    obtain ⟨E, I'⟩ := I.call h9 hd
    have hne : ∀ i : Nat, β[i]? ≠ some b := fun i hi => by
      have := (I.bl i b hi).2; omega
    have hlo := I.lo
    have E2 : Ext W β H (fun A => W A ∨ A = b) (β ++ [b]) H' := ⟨E.n, E.get, fun A hA hw => by
      rcases hw with hw | hw
      · exact hw
      · omega, fun i x hx => by rw [List.getElem?_append_left (List.getElem?_eq_some_iff.1 hx).1]; exact hx, fun A hA _ => h9.2.2 A hA, fun i x hx hl => by
      rcases Nat.lt_or_ge i β.length with h | h
      · rw [List.getElem?_append_left h] at hx
        exact ⟨i, hx⟩
      · rw [List.getElem?_append_right h] at hx
        cases hz : i - β.length with
        | zero => rw [hz] at hx; simp at hx; omega
        | succ z => rw [hz] at hx; simp at hx⟩
    have I2 := I'.adopt (b := b) (by omega) hne h7 h8 (fun i t l x hl hx rw' a ha _ => by
      have hb := I.bl i x hx
      rcases hl with hl | hl
      · obtain ⟨q1, a', q2, q3⟩ := I.live i t l x hl hx
        rw [h9.2.2 x hb.2, q2] at ha
        cases ha
        exact RelCs.ext E2 q3
      · obtain ⟨q1, r', a', q2, q3⟩ := I.frz i t l x hl hx
        rw [h9.2.2 x hb.2, q2] at ha
        cases ha
        exact RelCs.ext E2 q3
    ) (fun i t l x hl hx a ha => by
      have hb := I.bl i x hx
      obtain ⟨q1, a', q2, q3⟩ := I.liv i t l x hl hx
      rw [h9.2.2 x hb.2, q2] at ha
      cases ha
      exact RelVs.ext E2 q3) (fun i t l x hl hx a ha => by
      have hb := I.bl i x hx
      obtain ⟨q1, a', q2, q3⟩ := I.map i t l x hl hx
      rw [h9.2.2 x hb.2, q2] at ha
      cases ha
      exact EntPs.ext E2 q3) (fun i l x hl hx L ha _ => by
      have hb := I.bl i x hx
      obtain ⟨q1, a', q2, q3⟩ := I.lop i l x hl hx
      rw [h9.2.2 x hb.2, q2] at ha
      cases ha
      exact q3.ext E2)
    refine ⟨n, _, H', h4, _, _, _, _, _, E2, I2, (.ownu _ _ (by rw [← I.len]; simp)), h2 ty m e cs h5, fun _ => ⟨h9.2.2, by simp, fun j hj => contOf_push hj, fun j hj => livOf_push hj⟩⟩
theorem op_ok {O : Opn} (dr : Bool) {T : List PV} {T' : List AV} {o : Oper} {K : PV → List StB → Nat → Prop} (h : wOp O C c dr T σ k o.op K) (I : Sto H0 W0 c σ k W β H) (hr : ∀ x ∈ o.op.operands.toList, TR H W β T T' x) :
    ∃ n v H', execE C (ev C n) T' o H = some (v, H') ∧ OutQ H0 W0 c W β σ H (dr && quietOp o.op) K v H' := by
  obtain ⟨dst, op, ty, pos, after, guard⟩ := o
  simp only at h hr
  have hn := I.nlim
  have hn' : ¬ lim ≤ H.n := by omega
  unfold wOp at h
  split at h
  · rename_i t a
    obtain ⟨p, h1, v, h2, h3⟩ := popdK_ok h
    obtain ⟨a', g1, g2⟩ := pOp_rel h1 (hr a (by simp [Op.operands]))
    obtain ⟨b, o, u, rfl, hb, g3, g4⟩ := load_ok I h2 g2
    have hK : K v σ k := by
      cases dr with
      | true => exact h3.2
      | false => exact h3
    refine ⟨0, u, H, ?_, v, σ, k, W, β, Ext.refl _ _ _, I, g4, hK, fun _ => Quiet.refl _ _⟩
    simp only [execE, kindOf, g1, g3]
  · rename_i t a v
    obtain ⟨p, h1, h2⟩ := popdK_ok h
    obtain ⟨q, h3, h4⟩ := popdK_ok h2
    obtain ⟨a', g1, g2⟩ := pOp_rel h1 (hr a (by simp [Op.operands]))
    obtain ⟨v', g3, g4⟩ := pOp_rel h3 (hr v (by simp [Op.operands]))
    split at h4
    · obtain ⟨H', σ'', e1, E, I', h6⟩ := storeL_ok I h4 g2 g4
      refine ⟨0, undefA, H', ?_, undefP, σ'', k, W, β, E, I', undef_rel, h6, fun hq => by cases dr <;> cases hq⟩
      simp only [execE, kindOf, effE, g1, g3, e1]
    obtain ⟨q', σ', W', f, r, h5⟩ := frzAK_ok h4 I g4
    obtain ⟨H', σ'', e1, E, I', h6⟩ := store_ok f.2.1 h5 (g2.ext f.1) r
    refine ⟨0, undefA, H', ?_, undefP, σ'', k, W', β, f.1.trans E, I', undef_rel, h6, fun hq => by cases dr <;> cases hq⟩
    simp only [execE, kindOf, effE, g1, g3, e1]
  · rename_i t ps
    obtain ⟨l, avs, h1, h2, h3⟩ := parts_ok (β := β) (H := H) (W := W) (T' := T') h fun p hp => hr p.2 (by simp [Op.operands]; exact ⟨p.1, by simpa using hp⟩)
    split at h1
    · rename_i hO
      have key : ∃ cs v, pureE C (opd T') (.build t ps) = some v ∧ RelV H W β (.agg cs) v ∧ K (.agg cs) σ k := by
        split at h1
        · rename_i i hi
          split at h1
          · rename_i zs hz
            have hzr : All2 (RelV H W β) zs i.zero.cells := cellVs_ok hz
            split at h1
            · rename_i fs hd
              split at h1
              · rename_i pl hp
                obtain ⟨cs, h5, h6⟩ := h1
                obtain ⟨racs, h7, h8⟩ := fillV_ok h5 hzr h3
                exact ⟨cs, .agg racs, by simp only [pureE, hi, h2, hd, hp, h7], .agg h8, h6⟩
              · exact h1.elim
            · rename_i n e hd
              split at h1
              · rename_i ei he
                obtain ⟨cs, h5, h6⟩ := h1
                obtain ⟨racs, h7, h8⟩ := fillV_ok h5 hzr h3
                exact ⟨cs, .agg racs, by simp only [pureE, hi, h2, hd, he, h7], .agg h8, h6⟩
              · exact h1.elim
            · exact h1.elim
          · exact h1.elim
        · exact h1.elim
      obtain ⟨cs, v, k1, k2, k3⟩ := key
      refine ⟨0, v, H, ?_, .agg cs, σ, k, W, β, Ext.refl _ _ _, I, k2, k3, fun _ => Quiet.refl _ _⟩
      simp only [execE, kindOf, k1]
    obtain ⟨l', σ', W', f, r, h4⟩ := frzPK_ok h1.out I h3
    have key : ∃ cs v, pureE C (opd T') (.build t ps) = some v ∧ RelC H W' (.agg cs) v ∧ K (.agg cs) σ' k := by
      split at h4
      · rename_i i hi
        split at h4
        · rename_i zs hz
          have hzr : All2 (RelC H W') zs i.zero.cells := cellPs_ok hz
          split at h4
          · rename_i fs hd
            split at h4
            · rename_i pl hp
              obtain ⟨cs, h5, h6⟩ := h4
              obtain ⟨racs, h7, h8⟩ := fill_ok h5 hzr r
              exact ⟨cs, .agg racs, by simp only [pureE, hi, h2, hd, hp, h7], .agg h8, h6⟩
            · exact h4.elim
          · rename_i n e hd
            split at h4
            · rename_i ei he
              obtain ⟨cs, h5, h6⟩ := h4
              obtain ⟨racs, h7, h8⟩ := fill_ok h5 hzr r
              exact ⟨cs, .agg racs, by simp only [pureE, hi, h2, hd, he, h7], .agg h8, h6⟩
            · exact h4.elim
          · exact h4.elim
        · exact h4.elim
      · exact h4.elim
    obtain ⟨cs, v, k1, k2, k3⟩ := key
    refine ⟨0, v, H, ?_, .agg cs, σ', k, W', β, f.1, f.2.1, .clo k2, k3, fun _ => frz_quiet f⟩
    simp only [execE, kindOf, k1]
  · rename_i e
    obtain ⟨hk, h⟩ := h
    split at h
    · rename_i i hi
      split at h
      · split at h
        · rename_i cs hz
          obtain ⟨W', E, I', hb⟩ := I.pushG hk (ty := e) (x := .liv e cs) ⟨rfl, cellVs_ok hz⟩
          refine ⟨0, _, _, ?_, _, _, _, W', _, E, I', .optr _ hb, h, fun _ => push_quiet (Quiet.refl _ _) hn⟩
          simp only [execE, kindOf, if_neg hn', allocE, hi]
        · exact h.elim
      split at h
      · rename_i cs hz
        obtain ⟨W', E, I', hb⟩ := I.push hk (ty := e) (cellPs_ok hz)
        refine ⟨0, _, _, ?_, _, _, _, W', _, E, I', .optr _ hb, h, fun _ => push_quiet (Quiet.refl _ _) hn⟩
        simp only [execE, kindOf, if_neg hn', allocE, hi]
      · exact h.elim
    · exact h.elim
  · rename_i e x
    obtain ⟨hk, h⟩ := h
    obtain ⟨p, h1, h2⟩ := popdK_ok h
    obtain ⟨a, g1, g2⟩ := pOp_rel h1 (hr x (by simp [Op.operands]))
    split at h2
    · split at h2
      · rename_i i hi
        obtain ⟨W2, E, I', hb⟩ := I.pushG hk (ty := e) (x := .liv e p.pcells) ⟨rfl, g2.cells⟩
        refine ⟨0, _, _, ?_, _, _, _, W2, _, E, I', .optr _ hb, h2, fun _ => push_quiet (Quiet.refl _ _) hn⟩
        simp only [execE, kindOf, if_neg hn', allocE, hi, g1]
      · exact h2.elim
    obtain ⟨p', σ', W', f, r, h3⟩ := frzAK_ok h2 I g2
    split at h3
    · rename_i i hi
      obtain ⟨W2, E, I', hb⟩ := f.2.1.push hk (ty := e) r.cells
      refine ⟨0, _, _, ?_, _, _, _, W2, _, f.1.trans E, I', .optr _ hb, h3, fun _ => push_quiet (frz_quiet f) hn⟩
      simp only [execE, kindOf, if_neg hn', allocE, hi, g1]
    · exact h3.elim
  · rename_i t l cp
    obtain ⟨hk, h⟩ := h
    obtain ⟨p, h1, h2⟩ := popdK_ok h
    obtain ⟨q, h3, h4⟩ := popdK_ok h2
    obtain ⟨a, g1, g2⟩ := pOp_rel h1 (hr l (by simp [Op.operands]))
    obtain ⟨b, g3, g4⟩ := pOp_rel h3 (hr cp (by simp [Op.operands]))
    split at h4
    · rename_i e _ _ _ ht
      split at h4
      · rename_i ei he
        split at h4
        · split at h4
          · rename_i zs hz
            split at h4
            · rename_i hd
              have hd := of_decide_eq_true hd
              split at h4
              · rename_i l' cp'
                obtain ⟨⟨q1, q2, q3⟩, cs, rfl, q4⟩ := h4
                obtain ⟨W2, E, I', hb⟩ := I.pushG hk (ty := e) (x := .liv e _) ⟨rfl, zerosV_flat (cellVs_ok hz) cp'.toNat⟩
                refine ⟨0, _, _, ?_, _, _, _, W2, _, E, I', .own _ _ _ _ hb, q4, fun _ => push_quiet (Quiet.refl _ _) hn⟩
                rw [g2.int_inv] at g1
                rw [g4.int_inv] at g3
                simp only [execE, kindOf, if_neg hn', allocE, ht, he, g1, g3]
                rw [if_pos ⟨q1, q2, q3, hd.1, hd.2⟩]
              · exact h4.elim
            · exact h4.elim
          · exact h4.elim
        split at h4
        · rename_i zs hz
          split at h4
          · rename_i hd
            have hd := of_decide_eq_true hd
            split at h4
            · rename_i l' cp'
              obtain ⟨⟨q1, q2, q3⟩, cs, rfl, q4⟩ := h4
              obtain ⟨W2, E, I', hb⟩ := I.push hk (ty := e) (zeros_flat (cellPs_ok hz) cp'.toNat)
              refine ⟨0, _, _, ?_, _, _, _, W2, _, E, I', .own _ _ _ _ hb, q4, fun _ => push_quiet (Quiet.refl _ _) hn⟩
              rw [g2.int_inv] at g1
              rw [g4.int_inv] at g3
              simp only [execE, kindOf, if_neg hn', allocE, ht, he, g1, g3]
              rw [if_pos ⟨q1, q2, q3, hd.1, hd.2⟩]
            · exact h4.elim
          · exact h4.elim
        · exact h4.elim
      · exact h4.elim
    · exact h4.elim
  · rename_i t len ps
    obtain ⟨hk, h⟩ := h
    obtain ⟨l, avs, h1, h2, h3⟩ := parts_ok (β := β) (H := H) (W := W) (T' := T') h fun p hp => hr p.2 (by simp [Op.operands]; exact ⟨p.1, by simpa using hp⟩)
    split at h1
    · split at h1
      · rename_i e _ _ _ ht
        split at h1
        · rename_i ei he
          split at h1
          · rename_i zs hz
            split at h1
            · rename_i hd
              have hd := of_decide_eq_true hd
              obtain ⟨cs, h5, h6⟩ := h1
              obtain ⟨racs, h7, h8⟩ := fillV_ok h5 (zerosV_flat (cellVs_ok hz) len) h3
              obtain ⟨W2, E, I', hb⟩ := I.pushG hk (ty := e) (x := .liv e cs) ⟨rfl, h8⟩
              refine ⟨0, _, _, ?_, _, _, _, W2, _, E, I', .own _ _ _ _ hb, h6, fun _ => push_quiet (Quiet.refl _ _) hn⟩
              have hd' : ¬ (len * ei.size > 2 ^ 20 ∨ ei.zero.cells.length ≠ ei.size) := fun hh => by
                rcases hh with hh | hh
                · omega
                · exact hh hd.2
              simp only [execE, kindOf, if_neg hn', allocE, ht, he, h2, if_neg hd', h7]
            · exact h1.elim
          · exact h1.elim
        · exact h1.elim
      · exact h1.elim
    obtain ⟨l', σ', W', f, r, h4⟩ := frzPK_ok h1.out I h3
    split at h4
    · rename_i e _ _ _ ht
      split at h4
      · rename_i ei he
        split at h4
        · rename_i zs hz
          split at h4
          · rename_i hd
            have hd := of_decide_eq_true hd
            obtain ⟨cs, h5, h6⟩ := h4
            obtain ⟨racs, h7, h8⟩ := fill_ok h5 (zeros_flat (cellPs_ok hz) len) r
            obtain ⟨W2, E, I', hb⟩ := f.2.1.push hk (ty := e) h8
            refine ⟨0, _, _, ?_, _, _, _, W2, _, f.1.trans E, I', .own _ _ _ _ hb, h6, fun _ => push_quiet (frz_quiet f) hn⟩
            have hd' : ¬ (len * ei.size > 2 ^ 20 ∨ ei.zero.cells.length ≠ ei.size) := fun hh => by
              rcases hh with hh | hh
              · omega
              · exact hh hd.2
            simp only [execE, kindOf, if_neg hn', allocE, ht, he, h2, if_neg hd', h7]
          · exact h4.elim
        · exact h4.elim
      · exact h4.elim
    · exact h4.elim
  · rename_i t
    cases dr with
    | true => exact h.elim
    | false =>
    obtain ⟨hk, h⟩ := h
    split at h
    · rename_i kt _ _ _ _ ht
      split at h
      · rename_i kd _ _ _ hkt
        obtain ⟨W', E, I', hb⟩ := I.pushB hk (x := .mp kd []) (bk := .map kd []) ⟨[], rfl, .nil⟩
        refine ⟨0, .mp H.n, _, ?_, _, _, _, W', _, E, I', .omap hb, h, fun hq => by cases hq⟩
        simp only [execE, kindOf, effE, makeMapE, if_neg hn', ht, hkt]
      · exact h.elim
    · exact h.elim
  · rename_i t m key ok
    obtain ⟨p, h1, h2⟩ := popdK_ok h
    obtain ⟨q, h3, h4⟩ := popdK_ok h2
    obtain ⟨a, g1, g2⟩ := pOp_rel h1 (hr m (by simp [Op.operands]))
    obtain ⟨b, g3, g4⟩ := pOp_rel h3 (hr key (by simp [Op.operands]))
    obtain ⟨r, v, q1, q2, q3⟩ := look_ok I h4 g2 g4
    refine ⟨0, v, H, ?_, r, σ, k, W, β, Ext.refl _ _ _, I, q2, q3, fun _ => Quiet.refl _ _⟩
    simp only [execE, kindOf, effE, g1, g3, q1]
  · rename_i t m key v
    cases dr with
    | true => exact h.elim
    | false =>
    obtain ⟨p, h1, h2⟩ := popdK_ok h
    obtain ⟨q, h3, h4⟩ := popdK_ok h2
    obtain ⟨q', h5, h6⟩ := popdK_ok h4
    obtain ⟨a, g1, g2⟩ := pOp_rel h1 (hr m (by simp [Op.operands]))
    obtain ⟨b, g3, g4⟩ := pOp_rel h3 (hr key (by simp [Op.operands]))
    obtain ⟨u, g5, g6⟩ := pOp_rel h5 (hr v (by simp [Op.operands]))
    obtain ⟨H', σ', W', q1, E, I', hK⟩ := upd_ok I h6 g2 g4 g6
    refine ⟨0, undefA, H', ?_, undefP, σ', k, W', β, E, I', undef_rel, hK, fun hq => by cases hq⟩
    simp only [execE, kindOf, effE, g1, g3, g5, q1]
  · rename_i t m key v
    cases dr with
    | true => exact h.elim
    | false =>
    obtain ⟨p, h1, h2⟩ := popdK_ok h
    obtain ⟨q, h3, h4⟩ := popdK_ok h2
    obtain ⟨q', h5, h6⟩ := popdK_ok h4
    obtain ⟨a, g1, g2⟩ := pOp_rel h1 (hr m (by simp [Op.operands]))
    obtain ⟨b, g3, g4⟩ := pOp_rel h3 (hr key (by simp [Op.operands]))
    obtain ⟨u, g5, g6⟩ := pOp_rel h5 (hr v (by simp [Op.operands]))
    obtain ⟨H', σ', W', q1, E, I', hK⟩ := upd_ok I h6 g2 g4 g6
    refine ⟨0, undefA, H', ?_, undefP, σ', k, W', β, E, I', undef_rel, hK, fun hq => by cases hq⟩
    simp only [execE, kindOf, effE, g1, g3, g5, q1]
  · rename_i args ts
    split at h
    · rename_i hm
      cases dr with
      | true => exact h.elim
      | false =>
      obtain ⟨ps, h1, h2⟩ := popdsK_ok h
      obtain ⟨avs, g1, g2⟩ := pOps_rel h1 fun x hx => hr x (by simp [Op.operands, Call.operands]; simpa using hx)
      obtain ⟨a, n, rfl, q1, q2⟩ := len_ok I h2 g2
      refine ⟨0, _, H, ?_, _, σ, k, W, β, Ext.refl _ _ _, I, .clo (.int _ _), q2, fun hq => by cases hq⟩
      simp only [execE, kindOf, hm, if_true, effE, g1, q1]
    · obtain ⟨hkd, r, h1, h2⟩ := pur_ok h
      obtain ⟨v, g1, g2⟩ := h2 H W β T' hr
      refine ⟨0, v, H, ?_, r, σ, k, W, β, Ext.refl _ _ _, I, g2, h1, fun _ => Quiet.refl _ _⟩
      simp only [execE, hkd, g1]
  · rename_i args ts
    obtain ⟨ps, h1, h2⟩ := popdsK_ok h
    obtain ⟨avs, g1, g2⟩ := pOps_rel h1 fun x hx => hr x (by simp [Op.operands, Call.operands]; simpa using hx)
    split at h2
    · rename_i s x
      cases g2 with
      | cons r1 g2 => cases g2 with
        | cons r2 g2 =>
          cases g2
          split at h2
          · obtain ⟨v, H', e1, r, σ', k', W', β', E, I', q1, q2⟩ := appL_ok I h2.out r1 r2
            refine ⟨0, v, H', ?_, r, σ', k', W', β', E, I', q1, q2, fun hq => by cases dr <;> cases hq⟩
            simp only [execE, kindOf, effE, g1, e1]
          obtain ⟨v, H', e1, r, σ', k', W', β', E, I', q1, q2⟩ := app_ok I h2.out r1 r2
          refine ⟨0, v, H', ?_, r, σ', k', W', β', E, I', q1, q2, fun hq => by cases dr <;> cases hq⟩
          simp only [execE, kindOf, effE, g1, e1]
    · exact h2.elim
  · rename_i args ts
    obtain ⟨ps, h1, h2⟩ := popdsK_ok h
    obtain ⟨avs, g1, g2⟩ := pOps_rel h1 fun x hx => hr x (by simp [Op.operands, Call.operands]; simpa using hx)
    split at h2
    · rename_i s x
      cases g2 with
      | cons r1 g2 => cases g2 with
        | cons r2 g2 =>
          cases g2
          obtain ⟨v, H', r, σ', e1, E, I', q1, q2⟩ := copy_ok I h2 r1 r2
          refine ⟨0, v, H', ?_, r, σ', k, W, β, E, I', q1, q2, fun hq => by cases dr <;> cases hq⟩
          simp only [execE, kindOf, effE, g1, e1]
    · exact h2.elim
  · rename_i f args ts
    obtain ⟨p, h1, h2⟩ := popdK_ok h
    obtain ⟨a, g1, g2⟩ := pOp_rel h1 (hr f (by simp [Op.operands, Call.operands]))
    have callG : ∀ {g : FuncId} {ps : List PV} {avs : List AV}, ArgK dr C c k σ g ps K → All2 (RelV H W β) ps avs → ∃ n v H', call C n g avs H = some (v, H') ∧ OutQ H0 W0 c W β σ H dr K v H' := fun {g ps avs} h4 g4 => by
      have frz : ∀ {σ : List StB} {W : Nat → Prop} (_ : Sto H0 W0 c σ k W β H) (_ : All2 (RelV H W β) ps avs) (_ : frzAsK σ ps fun ps' σ' => pcallK C c k σ' g ps' K), ∃ n v H', call C n g avs H = some (v, H') ∧ OutQ H0 W0 c W β σ H true K v H' := fun {σ W} I g4 h4 => by
        obtain ⟨ps', σ', W', fz, r, h5⟩ := frzAsK_ok h4 I g4
        obtain ⟨n, v, H', e1, r', σ2, k2, W2, β2, E, I', q1, q2, q3⟩ := call_ok fz.2.1 h5 r
        exact ⟨n, v, H', e1, r', σ2, k2, W2, β2, fz.1.trans E, I', q1, q2, fun _ => (frz_quiet fz).trans (q3 rfl) (Nat.le_refl _)⟩
      have key : ∃ n v H', call C n g avs H = some (v, H') ∧ OutQ H0 W0 c W β σ H dr K v H' := by
        rcases h4.out with h4 | h4 | h4
        · obtain ⟨n, v, H', e1, r', σ2, k2, W2, β2, E, I', q1, q2, q3⟩ := frz I g4 h4
          exact ⟨n, v, H', e1, r', σ2, k2, W2, β2, E, I', q1, q2, fun _ => q3 rfl⟩
        · obtain ⟨ps', σ', W', fz, r, d, Q, hd, h5, h6⟩ := lendsK_ok h4 I g4
          obtain ⟨n, v, H', e1, r', h7, h8, h9⟩ := h5 H W' avs fz.2.1.wlt r (by have := I.hi; have := I.room; omega)
          obtain ⟨E, I'⟩ := fz.2.1.call h9 hd
          have Q1 := frz_quiet fz
          exact ⟨n, v, H', e1, r', σ', _, W', β, fz.1.trans E, I', .clo h8, h6 r' h7, fun _ => ⟨h9.2.2, Q1.2.1, Q1.2.2⟩⟩
        · obtain ⟨rfl, js, h4⟩ := h4
          obtain ⟨σ1, W1, E1, I1, l1, h4⟩ := sealsK_ok h4 I
          rcases h4 with h4 | ⟨ms, h4⟩
          · obtain ⟨n, v, H', e1, r', σ2, k2, W2, β2, E, I', q1, q2, q3⟩ := frz I1 (RelVs.ext E1 g4) h4
            exact ⟨n, v, H', e1, r', σ2, k2, W2, β2, E1.trans E, I', q1, q2, fun hq => by cases hq⟩
          · obtain ⟨ps', σ2, W2, fz, r, d, Q, hd, h5, h6⟩ := frzmK_ok h4 I1 (RelVs.ext E1 g4)
            obtain ⟨n, v, H', e1, r', σ', k', W', β', E, I', q1, q2, q3⟩ := h5 _ _ _ _ _ _ _ _ fz.2.1 hd r
            exact ⟨n, v, H', e1, r', σ', _, W', β', (E1.trans fz.1).trans E, I'.raise q3 hd, q1, h6 r' σ' q2, fun hq => by cases hq⟩
      exact key
    split at h2
    · rename_i g
      obtain ⟨ps, h3, h4⟩ := popdsK_ok h2
      obtain ⟨avs, g3, g4⟩ := pOps_rel h3 fun x hx => hr x (by simp [Op.operands, Call.operands]; exact .inr (by simpa using hx))
      obtain ⟨n, v, H', e1, r', σ2, k2, W2, β2, o1, o2, o3, o4, o5⟩ := callG h4 g4
      refine ⟨n, v, H', ?_, r', σ2, k2, W2, β2, o1, o2, o3, o4, fun hq => o5 (by cases dr <;> first | rfl | cases hq)⟩
      rw [g2.fn_inv] at g1
      simp only [execE, kindOf, effE, g1, g3]
      simp
      exact e1
    · rename_i g cs
      obtain ⟨ps, h3, h4⟩ := popdsK_ok h2
      obtain ⟨avs, g3, g4⟩ := pOps_rel h3 fun x hx => hr x (by simp [Op.operands, Call.operands]; exact .inr (by simpa using hx))
      obtain ⟨bs, rfl, g5⟩ := g2.fnc_inv
      obtain ⟨n, v, H', e1, r', σ2, k2, W2, β2, o1, o2, o3, o4, o5⟩ := callG h4 (All2.append g4 g5)
      refine ⟨n, v, H', ?_, r', σ2, k2, W2, β2, o1, o2, o3, o4, fun hq => o5 (by cases dr <;> first | rfl | cases hq)⟩
      simp only [execE, kindOf, effE, g1, g3]
      simp
      exact e1
    · rename_i i
      obtain ⟨ps, h3, h4⟩ := popdsK_ok h2
      obtain ⟨avs, g3, g4⟩ := pOps_rel h3 fun x hx => hr x (by simp [Op.operands, Call.operands]; exact .inr (by simpa using hx))
      obtain ⟨rfl, js, h4⟩ := h4.out
      obtain ⟨σ1, W1, E1, I1, l1, ms, h4⟩ := sealsK_ok h4 I
      obtain ⟨ps', σ2, W2, fz, r, d, Q, hd, h5, h6⟩ := frzmK_ok h4 I1 (RelVs.ext E1 g4)
      obtain ⟨l, hl, rfl⟩ := g2.yld_inv
      obtain ⟨n, v, H', e1, r', σ', k', W', β', E, I', rfl, q2, q3⟩ := h5 _ _ _ _ _ _ _ _ _ fz.2.1 hd hl r
      refine ⟨n, _, H', ?_, _, σ', _, W', β', (E1.trans fz.1).trans E, I'.raise q3 hd, .clo (.bool _), h6 r' σ' q2, fun hq => by cases hq⟩
      simp only [execE, kindOf, effE, g1, g3]
      exact e1
    · exact h2.elim
  · obtain ⟨hkd, r, h1, h2⟩ := pur_ok h
    obtain ⟨v, g1, g2⟩ := h2 H W β T' hr
    refine ⟨0, v, H, ?_, r, σ, k, W, β, Ext.refl _ _ _, I, g2, h1, fun _ => Quiet.refl _ _⟩
    simp only [execE, hkd, g1]
end
end Go.PI
