/- Own work of the verifier: IntMath PiInt0 PiDr2 PiDr4. -/
import Derived.Test.YtefajaiioljjoaaOmAL
set_option linter.all false
set_option exponentiation.threshold 3000
set_option linter.deprecated false
/- INTEGERS AS LISTS OF ELEMENTS BELOW 10^8 IN SIZE. -/
namespace Go.PI.IM
def val : List Int → Int
  | [] => 0
  | x :: xs => x + 100000000 * val xs
def Top (xs : List Int) : Prop := xs = [] ∨ ∃ ys t, xs = ys ++ [t] ∧ t ≠ 0
def digF : Nat → Nat → List Nat
  | 0, _ => []
  | f + 1, n => if n = 0 then [] else n % 100000000 :: digF f (n / 100000000)
def digN (n : Nat) : List Nat := digF (n.log2 / 26 + 1) n
def digits (v : Int) : List Int :=
  match v with
  | .ofNat n => (digN n).map Int.ofNat
  | .negSucc n => (digN (n + 1)).map fun k => - Int.ofNat k
structure Nrm (xs : List Int) : Prop where
  side : (∀ x ∈ xs, 0 ≤ x ∧ x < 100000000) ∨ (∀ x ∈ xs, -100000000 < x ∧ x ≤ 0)
  top : Top xs
end Go.PI.IM
/- SLICES OF INTEGERS IN THE HEAP OF OUR OWN. -/
namespace Go.PI
open IM
def ints (xs : List Int) : List AV := xs.map (AV.int .i64)
theorem ints_length (xs : List Int) : (ints xs).length = xs.length := by simp [ints]
def Sl (H : Heap) (v : AV) (xs : List Int) : Prop :=
  match v with
  | .nils => xs = []
  | .sle => xs = []
  | .sl b o l _ => l = xs.length ∧ ∃ rw ty cs, H.get b = .cells rw ty cs ∧ o + l ≤ cs.length ∧ (cs.drop o).take l = ints xs
  | .slu b o l e => e = 1 ∧ l = xs.length ∧ ∃ rw ty cs, H.get b = .cells rw ty cs ∧ o + l ≤ cs.length ∧ (cs.drop o).take l = ints xs
  | _ => False
def blk (v : AV) : Nat :=
  match v with
  | .sl b _ _ _ => b
  | .slu b _ _ _ => b
  | _ => 0
theorem Sl.mono {H H' : Heap} {v : AV} {xs : List Int} (h : Sl H v xs) (k : ∀ A, A < H.n → H'.get A = H.get A) : Sl H' v xs := by
  unfold Sl at *
  split at h <;> try exact h
  · obtain ⟨h1, rw, ty, cs, h2, h3⟩ := h
    exact ⟨h1, rw, ty, cs, by rw [k _ (Heap.lt_of_get (by rw [h2]; simp))]; exact h2, h3⟩
  · obtain ⟨h0, h1, rw, ty, cs, h2, h3⟩ := h
    exact ⟨h0, h1, rw, ty, cs, by rw [k _ (Heap.lt_of_get (by rw [h2]; simp))]; exact h2, h3⟩
structure Upd (H : Heap) (b : Nat) (x : Blk) (H' : Heap) : Prop where
  n : H'.n = H.n
  at_ : H'.get b = x
  other : ∀ A, A ≠ b → H'.get A = H.get A
theorem Upd.trans {H H' H'' : Heap} {b : Nat} {x y : Blk} (h : Upd H b x H') (k : Upd H' b y H'') : Upd H b y H'' :=
  ⟨k.n.trans h.n, k.at_, fun A hA => (k.other A hA).trans (h.other A hA)⟩
theorem Upd.refl {H : Heap} {b : Nat} {x : Blk} (h : H.get b = x) : Upd H b x H := ⟨rfl, h, fun _ _ => rfl⟩
theorem take_snoc {xs : List Int} {i : Nat} {x : Int} (h : xs[i]? = some x) : xs.take (i + 1) = xs.take i ++ [x] := by
  rw [List.take_add_one, h]; rfl
end Go.PI
/- OPEN REGIONS: what there was is there up to boundary c, and no load may come up behind it. -/
namespace Go.PI
def grC (H0 : Heap) (c : Nat) : List (List AV × Heap) → Nat → Prop
  | [], _ => True
  | x :: r, p => (match Nat.ble p c with
    | true => ∀ A, A < H0.n → x.2.get A = H0.get A
    | false => True) ∧ grC H0 c r (p + 1)
def noneFrom (C : Ctx) (ops : List Oper) (pre : List Nat) (i : Nat) : Nat → Nat → Bool
  | _, 0 => true
  | p, n + 1 => !(isBd C ops p && mayAt C ops pre i p ops 0) && noneFrom C ops pre i (p + 1) n
def lastOk2 (C : Ctx) (ops : List Oper) (pre : List Nat) (c m : Nat) : List Oper → Nat → Bool
  | [], _ => true
  | o :: os, i => (!isLoad o || (Nat.ble i c && noneFrom C ops pre i (c + 1) (m - c))) && lastOk2 C ops pre c m os (i + 1)
theorem none_of {C : Ctx} {ops : List Oper} {pre : List Nat} {i : Nat} : ∀ (n p : Nat), noneFrom C ops pre i p n = true → ∀ p', p ≤ p' → p' < p + n → (isBd C ops p' && mayAt C ops pre i p' ops 0) = false
  | 0, p, _, p', h1, h2 => by omega
  | n + 1, p, h, p', h1, h2 => by
    simp only [noneFrom, Bool.and_eq_true, Bool.not_eq_true'] at h
    by_cases hp : p' = p
    · subst hp; exact h.1
    · exact none_of n (p + 1) h.2 p' (by omega) (by omega)
theorem loadAts_of2 {C : Ctx} {ops : List Oper} {pre : List Nat} {i : Nat} {t : TypeId} {b off : Nat} {v : AV} {H0 : Heap} {c m : Nat} (hb : b < H0.n) (hl : loadE C t (.ptr b off) H0 = some v) (hs : v.same v = true)
    (hlast : ∀ p', c + 1 ≤ p' → p' ≤ m → (isBd C ops p' && mayAt C ops pre i p' ops 0) = false) :
    ∀ (tr : List (List AV × Heap)) (p : Nat), grC H0 c tr p → p + tr.length = m + 1 → loadAts C ops pre i t (.ptr b off) v tr p = true
  | [], _, _, _ => rfl
  | (T, H) :: r, p, hg, hp => by
    simp only [loadAts]
    simp at hp
    rw [loadAts_of2 hb hl hs hlast r (p + 1) hg.2 (by omega), Bool.and_true]
    cases hc : Nat.ble p c with
    | true =>
      have hg1 := hg.1
      rw [hc] at hg1
      rw [load_get (hg1 b hb), hl]
      simp [hs]
    | false =>
      have : ¬ p ≤ c := fun h => by rw [Nat.ble_eq_true_of_le h] at hc; cases hc
      rw [hlast p (by omega) (by omega)]
      simp
theorem loads_of2 {C : Ctx} {ops : List Oper} {pre : List Nat} {all : List (List AV × Heap)} {H0 : Heap} {c m : Nat} (hall : grC H0 c all 0) (hlen : all.length = m + 1) (hcm : c ≤ m) : ∀ (os : List Oper) (tr : List (List AV × Heap)) (i : Nat), ldsP C ops H0 os tr → grC H0 c tr i → lastOk2 C ops pre c m os i = true → loadsOk C ops pre all os tr i = true
  | [], tr, _, _, _, _ => by cases tr <;> rfl
  | o :: os, [], _, _, _, _ => rfl
  | o :: os, (T, H) :: tr, i, h, hg, hlast => by
    simp only [lastOk2, Bool.and_eq_true] at hlast
    simp only [loadsOk]
    rw [loads_of2 hall hlen hcm os tr (i + 1) h.2 hg.2 hlast.2, Bool.and_true]
    have h1 := h.1
    cases ho : o.op <;> simp only [ho] at h1 ⊢
    rename_i t x
    cases hw : Region.wanted o (ayielded ops T) with
    | false => simp
    | true =>
      simp only [hw] at h1
      obtain ⟨b, off, v, e1, e2, e3, e4⟩ := h1
      simp only [if_true, e1]
      have hl1 := hlast.1
      simp only [isLoad, ho, Bool.not_true, Bool.false_or, Bool.and_eq_true] at hl1
      have hg1 := hg.1
      rw [hl1.1] at hg1
      rw [load_get (hg1 b e2), e3]
      exact loadAts_of2 (m := m) e2 e3 e4 (fun p' q1 q2 => none_of _ _ hl1.2 p' q1 (by omega)) all 0 hall (by omega)
def atsP (b : Nat) (H0 : Heap) : List Bool → List (List AV × Heap) → Prop
  | true :: ms, x :: r => x.2.get b = H0.get b ∧ atsP b H0 ms r
  | false :: ms, _ :: r => atsP b H0 ms r
  | _, _ => True
def ldsM (C : Ctx) (ops : List Oper) (all : List (List AV × Heap)) : List (List Bool) → List Oper → List (List AV × Heap) → Prop
  | m :: ms, o :: os, (T, H) :: tr => (match o.op with
    | .load t x => (match Region.wanted o (ayielded ops T) with
      | true => ∃ b off v, opd T x = some (.ptr b off) ∧ loadE C t (.ptr b off) H = some v ∧ v.same v = true ∧ atsP b H m all
      | false => True)
    | _ => True) ∧ ldsM C ops all ms os tr
  | _, _, _ => True
def rowOk (C : Ctx) (ops : List Oper) (pre : List Nat) (i : Nat) : List Bool → Nat → Bool
  | [], p => Nat.beq p (ops.length + 1)
  | b :: bs, p => (!(isBd C ops p && mayAt C ops pre i p ops 0) || b) && rowOk C ops pre i bs (p + 1)
def msOk (C : Ctx) (ops : List Oper) (pre : List Nat) : List (List Bool) → List Oper → Nat → Bool
  | b :: bs, o :: os, i => (!isLoad o || rowOk C ops pre i b 0) && msOk C ops pre bs os (i + 1)
  | [], [], _ => true
  | _, _, _ => false
theorem loadAts_of3 {C : Ctx} {ops : List Oper} {pre : List Nat} {i : Nat} {t : TypeId} {b off : Nat} {v : AV} {H0 : Heap} (hl : loadE C t (.ptr b off) H0 = some v) (hs : v.same v = true) :
    ∀ (ms : List Bool) (tr : List (List AV × Heap)) (p : Nat), rowOk C ops pre i ms p = true → p + tr.length = ops.length + 1 → atsP b H0 ms tr → loadAts C ops pre i t (.ptr b off) v tr p = true
  | _, [], _, _, _, _ => rfl
  | [], (T, H) :: r, p, hr, hp, _ => by
    simp only [rowOk] at hr
    have := Nat.eq_of_beq_eq_true hr
    simp at hp; omega
  | m :: ms, (T, H) :: r, p, hr, hp, ha => by
    simp only [rowOk, Bool.and_eq_true] at hr
    simp only [loadAts]
    simp at hp
    cases m with
    | true =>
      rw [loadAts_of3 hl hs ms r (p + 1) hr.2 (by omega) ha.2, Bool.and_true, load_get ha.1, hl]
      simp [hs]
    | false =>
      rw [loadAts_of3 hl hs ms r (p + 1) hr.2 (by omega) ha, Bool.and_true]
      have h1 := hr.1
      rw [Bool.or_false] at h1
      rw [h1, Bool.true_or]
theorem loads_of3 {C : Ctx} {ops : List Oper} {pre : List Nat} {all : List (List AV × Heap)} (hlen : all.length = ops.length + 1) : ∀ (ms : List (List Bool)) (os : List Oper) (tr : List (List AV × Heap)) (i : Nat), msOk C ops pre ms os i = true → ldsM C ops all ms os tr → loadsOk C ops pre all os tr i = true
  | _, [], tr, _, _, _ => by cases tr <;> rfl
  | _, o :: os, [], _, _, _ => rfl
  | [], o :: os, (T, H) :: tr, i, hm, _ => by simp [msOk] at hm
  | m :: ms, o :: os, (T, H) :: tr, i, hm, h => by
    simp only [msOk, Bool.and_eq_true] at hm
    simp only [loadsOk]
    rw [loads_of3 hlen ms os tr (i + 1) hm.2 h.2, Bool.and_true]
    have h1 := h.1
    cases ho : o.op <;> simp only [ho] at h1 ⊢
    rename_i t x
    cases hw : Region.wanted o (ayielded ops T) with
    | false => simp
    | true =>
      simp only [hw] at h1
      obtain ⟨b, off, v, e1, e2, e3, e4⟩ := h1
      simp only [if_true, e1, e2]
      have hl1 := hm.1
      simp only [isLoad, ho, Bool.not_true, Bool.false_or] at hl1
      exact loadAts_of3 e2 e3 m all 0 hl1 (by omega) e4
end Go.PI
/- OPEN REGIONS WITH ALLOCATIONS behind which no operation of effect may come up ahead of them. -/
namespace Go.PI
def alBd (C : Ctx) (ops : List Oper) (pre : List Nat) (i : Nat) : Nat → Nat → Bool
  | _, 0 => true
  | p, n + 1 => !(isBd C ops p && decide (i < p) && mayAt C ops pre i p ops 0) && alBd C ops pre i (p + 1) n
def alNone (C : Ctx) (ops : List Oper) (pre : List Nat) : List Oper → Nat → Bool
  | [], _ => true
  | o :: os, i => (match kindOf C o.op with | .alloc => alBd C ops pre i 0 (ops.length + 1) | _ => true) && alNone C ops pre os (i + 1)
def alsP (C : Ctx) (ops : List Oper) : List Oper → List (List AV × Heap) → Prop
  | o :: os, (T, _) :: tr => (match kindOf C o.op with
    | .alloc => (match Region.wanted o (ayielded ops T) with
      | true => ∃ ty cs f, allocE C (opd T) o.op = some (.cells true ty cs, f)
      | false => True)
    | _ => True) ∧ alsP C ops os tr
  | _, _ => True
theorem allocAts_of4 {C : Ctx} {ops : List Oper} {pre : List Nat} {i A : Nat} {ty : TypeId} {cs : List AV} : ∀ (tr : List (List AV × Heap)) (p n : Nat), alBd C ops pre i p n = true → tr.length ≤ n → allocAts C ops pre i A ty cs tr p = true
  | [], _, _, _, _ => rfl
  | (T, H) :: r, p, 0, _, hl => by simp at hl
  | (T, H) :: r, p, n + 1, h, hl => by
    simp only [alBd, Bool.and_eq_true] at h
    simp only [allocAts]
    rw [allocAts_of4 r (p + 1) n h.2 (by simpa using hl), Bool.and_true, h.1, Bool.true_or]
theorem allocs_of4 {C : Ctx} {ops : List Oper} {pre : List Nat} {all : List (List AV × Heap)} (hlen : all.length = ops.length + 1) : ∀ (os : List Oper) (tr : List (List AV × Heap)) (i : Nat), alNone C ops pre os i = true → alsP C ops os tr → allocsOk C ops pre all os tr i = true
  | [], tr, _, _, _ => by cases tr <;> rfl
  | o :: os, [], _, _, _ => rfl
  | o :: os, (T, H) :: tr, i, h, ha => by
    simp only [alNone, Bool.and_eq_true] at h
    simp only [allocsOk]
    rw [allocs_of4 hlen os tr (i + 1) h.2 ha.2, Bool.and_true]
    have h1 := h.1
    have h2 := ha.1
    cases hk : kindOf C o.op <;> simp only [hk] at h1 h2 ⊢
    cases hw : Region.wanted o (ayielded ops T) with
    | false => simp
    | true =>
      simp only [hw] at h2
      obtain ⟨ty, cs, f, he⟩ := h2
      simp only [if_true, he]
      exact allocAts_of4 all 0 _ h1 (by omega)
def growS4 (C : Ctx) (ops : List Oper) (ms : List (List Bool)) : Bool := orderOk C ops (preList ops []) ops 0 && msOk C ops (preList ops []) ms ops 0 && alNone C ops (preList ops []) ops 0
theorem draw_of4 {C : Ctx} {ops : List Oper} {tr : List (List AV × Heap)} (ms : List (List Bool)) (hs : growS4 C ops ms = true) (hlen : tr.length = ops.length + 1) (hl : ldsM C ops tr ms ops tr) (ha : alsP C ops ops tr) (hm : mnP tr) : drawOk C ops tr = true := by
  simp only [growS4, Bool.and_eq_true] at hs
  unfold drawOk
  simp only [hs.1.1, loads_of3 hlen ms ops tr 0 hs.1.2 hl, allocs_of4 hlen ops tr 0 hs.2 ha, mono_of hm, Bool.and_self]
end Go.PI
