/- Own work of the verifier: IntMath PiInt0 PiDr2 PiDr4. -/
import Derived.Test.YtdflpkkgjppmgaaGreatCsAJ
set_option linter.all false
set_option exponentiation.threshold 3000
set_option linter.deprecated false
/- INTEGERS AS LISTS OF ELEMENTS BELOW 10^8 IN SIZE. -/
namespace Go.PI.IM
def val : List Int → Int
  | [] => 0
  | x :: xs => x + 100000000 * val xs
def pw : Nat → Int
  | 0 => 1
  | n + 1 => 100000000 * pw n
theorem pw_pos (n : Nat) : 0 < pw n := by
  induction n with
  | zero => decide
  | succ n ih => unfold pw; omega
theorem pw_add (m n : Nat) : pw (m + n) = pw m * pw n := by
  induction m with
  | zero => simp [pw]
  | succ m ih => rw [Nat.succ_add, pw, ih, pw, Int.mul_assoc]
theorem val_append (xs ys : List Int) : val (xs ++ ys) = val xs + pw xs.length * val ys := by
  induction xs with
  | nil => simp [val, pw]
  | cons x xs ih =>
    simp only [List.cons_append, val, List.length_cons, pw, ih]
    rw [Int.mul_add, Int.mul_assoc, Int.add_assoc]
def trimL : List Int → List Int
  | [] => []
  | x :: xs => match trimL xs with
    | [] => if x = 0 then [] else [x]
    | y :: ys => x :: y :: ys
theorem trim_val (xs : List Int) : val (trimL xs) = val xs := by
  induction xs with
  | nil => rfl
  | cons x xs ih =>
    unfold trimL
    split
    · rename_i h
      rw [h] at ih
      split
      · rename_i h0; subst h0; simp [val] at *; omega
      · simp [val] at *; omega
    · rename_i y ys h
      rw [h] at ih
      simp only [val] at *
      rw [ih]
theorem trim_mem (xs : List Int) : ∀ x ∈ trimL xs, x ∈ xs := by
  induction xs with
  | nil => intro x hx; cases hx
  | cons y ys ih =>
    intro x hx
    unfold trimL at hx
    split at hx
    · split at hx
      · cases hx
      · simp at hx; simp [hx]
    · rename_i z zs h
      rw [h] at ih
      simp only [List.mem_cons] at hx ih ⊢
      rcases hx with rfl | hx
      · exact .inl rfl
      · exact .inr (ih x hx)
def Top (xs : List Int) : Prop := xs = [] ∨ ∃ ys t, xs = ys ++ [t] ∧ t ≠ 0
theorem trim_top (xs : List Int) : Top (trimL xs) := by
  induction xs with
  | nil => exact .inl rfl
  | cons x xs ih =>
    unfold trimL
    split
    · split
      · exact .inl rfl
      · rename_i h0; exact .inr ⟨[], x, rfl, h0⟩
    · rename_i y ys h
      rw [h] at ih
      rcases ih with ih | ⟨zs, t, h1, h2⟩
      · cases ih
      · exact .inr ⟨x :: zs, t, by rw [h1]; rfl, h2⟩
def digF : Nat → Nat → List Nat
  | 0, _ => []
  | f + 1, n => if n = 0 then [] else n % 100000000 :: digF f (n / 100000000)
def digN (n : Nat) : List Nat := digF (n.log2 / 26 + 1) n
def digits (v : Int) : List Int :=
  match v with
  | .ofNat n => (digN n).map Int.ofNat
  | .negSucc n => (digN (n + 1)).map fun k => - Int.ofNat k
def valN : List Nat → Nat
  | [] => 0
  | x :: xs => x + 100000000 * valN xs
def TopN (xs : List Nat) : Prop := ∀ t, xs.getLast? = some t → t ≠ 0
theorem digF_val (f : Nat) : ∀ xs : List Nat, (∀ x ∈ xs, x < 100000000) → TopN xs → valN xs < 2 ^ (26 * f) → digF f (valN xs) = xs := by
  induction f with
  | zero =>
    intro xs hs ht hv
    simp at hv
    cases xs with
    | nil => rfl
    | cons x xs =>
      exfalso
      have hz : ∀ ys : List Nat, valN ys = 0 → ∀ y ∈ ys, y = 0 := by
        intro ys
        induction ys with
        | nil => intro _ y hy; cases hy
        | cons a as ih =>
          intro h y hy
          simp only [valN] at h
          simp only [List.mem_cons] at hy
          rcases hy with rfl | hy
          · omega
          · exact ih (by omega) y hy
      obtain ⟨t, hl⟩ : ∃ t, (x :: xs).getLast? = some t := ⟨_, List.getLast?_eq_some_getLast (by simp)⟩
      exact ht t hl (hz _ hv t (List.mem_of_getLast? hl))
  | succ f ih =>
    intro xs hs ht hv
    cases xs with
    | nil => simp [valN, digF]
    | cons x xs =>
      have hx := hs x (by simp)
      have hn : valN (x :: xs) ≠ 0 := by
        intro h
        have hz : ∀ ys : List Nat, valN ys = 0 → ∀ y ∈ ys, y = 0 := by
          intro ys
          induction ys with
          | nil => intro _ y hy; cases hy
          | cons a as ih =>
            intro h y hy
            simp only [valN] at h
            simp only [List.mem_cons] at hy
            rcases hy with rfl | hy
            · omega
            · exact ih (by omega) y hy
        obtain ⟨t, hl⟩ : ∃ t, (x :: xs).getLast? = some t := ⟨_, List.getLast?_eq_some_getLast (by simp)⟩
        exact ht t hl (hz _ h t (List.mem_of_getLast? hl))
      unfold digF
      rw [if_neg hn]
      simp only [valN] at hv ⊢
      have h1 : (x + 100000000 * valN xs) % 100000000 = x := by omega
      have h2 : (x + 100000000 * valN xs) / 100000000 = valN xs := by omega
      rw [h1, h2, ih xs (fun y hy => hs y (by simp [hy]))]
      · intro t hl
        cases xs with
        | nil => simp at hl
        | cons y ys => exact ht t (by rw [List.getLast?_cons_cons]; exact hl)
      · rw [Nat.mul_succ, Nat.pow_add] at hv
        have : (100000000 : Nat) > 2 ^ 26 := by decide
        omega
theorem digN_val {xs : List Nat} (hs : ∀ x ∈ xs, x < 100000000) (ht : TopN xs) : digN (valN xs) = xs := by
  unfold digN
  refine digF_val _ xs hs ht ?_
  refine Nat.lt_of_lt_of_le Nat.lt_log2_self ?_
  exact Nat.pow_le_pow_right (by decide) (by omega)
structure Nrm (xs : List Int) : Prop where
  side : (∀ x ∈ xs, 0 ≤ x ∧ x < 100000000) ∨ (∀ x ∈ xs, -100000000 < x ∧ x ≤ 0)
  top : Top xs
theorem top_last {xs : List Int} (h : Top xs) : ∀ t, xs.getLast? = some t → t ≠ 0 := by
  intro t hl
  rcases h with rfl | ⟨ys, s, rfl, hs⟩
  · cases hl
  · simp at hl; subst hl; exact hs
theorem val_ofNat (xs : List Nat) : val (xs.map Int.ofNat) = (valN xs : Int) := by
  induction xs with
  | nil => rfl
  | cons x xs ih => simp only [List.map_cons, val, valN, ih]; simp
theorem val_neg (xs : List Int) : val (xs.map fun x => -x) = - val xs := by
  induction xs with
  | nil => rfl
  | cons x xs ih => simp only [List.map_cons, val, ih]; omega
theorem valN_pos {xs : List Nat} (hs : xs ≠ []) (ht : TopN xs) : valN xs ≠ 0 := by
  intro h
  have hz : ∀ ys : List Nat, valN ys = 0 → ∀ y ∈ ys, y = 0 := by
    intro ys
    induction ys with
    | nil => intro _ y hy; cases hy
    | cons a as ih =>
      intro h y hy
      simp only [valN] at h
      simp only [List.mem_cons] at hy
      rcases hy with rfl | hy
      · omega
      · exact ih (by omega) y hy
  obtain ⟨t, hl⟩ : ∃ t, xs.getLast? = some t := ⟨_, List.getLast?_eq_some_getLast hs⟩
  exact ht t hl (hz _ h t (List.mem_of_getLast? hl))
theorem digits_val {xs : List Int} (h : Nrm xs) : digits (val xs) = xs := by
  obtain ⟨hs, ht⟩ := h
  have hl := top_last ht
  rcases hs with hs | hs
  · obtain ⟨ns, rfl, hn⟩ : ∃ ns : List Nat, xs = ns.map Int.ofNat ∧ ∀ n ∈ ns, n < 100000000 := by
      refine ⟨xs.map Int.toNat, ?_, ?_⟩
      · rw [List.map_map]
        conv => lhs; rw [← List.map_id xs]
        exact List.map_congr_left fun x hx => by have := hs x hx; simp; omega
      · intro n hn; obtain ⟨x, hx, rfl⟩ := List.mem_map.1 hn; have := hs x hx; omega
    have htn : TopN ns := fun t h => by
      have := hl (Int.ofNat t) (by rw [List.getLast?_map, h]; rfl)
      intro h0; subst h0; exact this rfl
    rw [val_ofNat]
    show (digN (valN ns)).map Int.ofNat = _
    rw [digN_val hn htn]
  · obtain ⟨ns, rfl, hn⟩ : ∃ ns : List Nat, xs = ns.map (fun k => - Int.ofNat k) ∧ ∀ n ∈ ns, n < 100000000 := by
      refine ⟨xs.map Int.natAbs, ?_, ?_⟩
      · rw [List.map_map]
        conv => lhs; rw [← List.map_id xs]
        exact List.map_congr_left fun x hx => by have := hs x hx; simp; omega
      · intro n hn; obtain ⟨x, hx, rfl⟩ := List.mem_map.1 hn; have := hs x hx; omega
    have htn : TopN ns := fun t h => by
      have := hl (- Int.ofNat t) (by rw [List.getLast?_map, h]; rfl)
      intro h0; subst h0; exact this rfl
    have hv : val (ns.map fun k => - Int.ofNat k) = - (valN ns : Int) := by
      rw [← val_ofNat, ← val_neg, List.map_map]; rfl
    rw [hv]
    by_cases h0 : ns = []
    · subst h0; rfl
    · have hp := valN_pos h0 htn
      obtain ⟨m, hm⟩ : ∃ m, valN ns = m + 1 := ⟨valN ns - 1, by omega⟩
      rw [hm, show (-(((m + 1 : Nat)) : Int)) = Int.negSucc m from rfl]
      simp only [digits]
      rw [← hm, digN_val hn htn]
end Go.PI.IM
/- SLICES OF INTEGERS IN THE HEAP OF OUR OWN. -/
namespace Go.PI
open IM
abbrev iv (n : Int) : AV := .int .i64 n
def ints (xs : List Int) : List AV := xs.map (AV.int .i64)
theorem ints_length (xs : List Int) : (ints xs).length = xs.length := by simp [ints]
theorem ints_take (xs : List Int) (n : Nat) : (ints xs).take n = ints (xs.take n) := by simp [ints, List.map_take]
def Sl (H : Heap) (v : AV) (xs : List Int) : Prop :=
  match v with
  | .nils => xs = []
  | .sle => xs = []
  | .sl b o l _ => l = xs.length ∧ ∃ rw ty cs, H.get b = .cells rw ty cs ∧ o + l ≤ cs.length ∧ (cs.drop o).take l = ints xs
  | .slu b o l e => e = 1 ∧ l = xs.length ∧ ∃ rw ty cs, H.get b = .cells rw ty cs ∧ o + l ≤ cs.length ∧ (cs.drop o).take l = ints xs
  | _ => False
def blk (v : AV) : Nat :=
  match v with
  | .sl b _ _ _ => b
  | .slu b _ _ _ => b
  | _ => 0
theorem Sl.mono {H H' : Heap} {v : AV} {xs : List Int} (h : Sl H v xs) (k : ∀ A, A < H.n → H'.get A = H.get A) : Sl H' v xs := by
  unfold Sl at *
  split at h <;> try exact h
  · obtain ⟨h1, rw, ty, cs, h2, h3⟩ := h
    exact ⟨h1, rw, ty, cs, by rw [k _ (Heap.lt_of_get (by rw [h2]; simp))]; exact h2, h3⟩
  · obtain ⟨h0, h1, rw, ty, cs, h2, h3⟩ := h
    exact ⟨h0, h1, rw, ty, cs, by rw [k _ (Heap.lt_of_get (by rw [h2]; simp))]; exact h2, h3⟩
structure Upd (H : Heap) (b : Nat) (x : Blk) (H' : Heap) : Prop where
  n : H'.n = H.n
  at_ : H'.get b = x
  other : ∀ A, A ≠ b → H'.get A = H.get A
theorem Upd.trans {H H' H'' : Heap} {b : Nat} {x y : Blk} (h : Upd H b x H') (k : Upd H' b y H'') : Upd H b y H'' :=
  ⟨k.n.trans h.n, k.at_, fun A hA => (k.other A hA).trans (h.other A hA)⟩
theorem Upd.refl {H : Heap} {b : Nat} {x : Blk} (h : H.get b = x) : Upd H b x H := ⟨rfl, h, fun _ _ => rfl⟩
theorem take_snoc {xs : List Int} {i : Nat} {x : Int} (h : xs[i]? = some x) : xs.take (i + 1) = xs.take i ++ [x] := by
  rw [List.take_add_one, h]; rfl
end Go.PI
/- OPEN REGIONS: what there was is there up to boundary c, and no load may come up behind it. -/
namespace Go.PI
def grC (H0 : Heap) (c : Nat) : List (List AV × Heap) → Nat → Prop
  | [], _ => True
  | x :: r, p => (match Nat.ble p c with
    | true => ∀ A, A < H0.n → x.2.get A = H0.get A
    | false => True) ∧ grC H0 c r (p + 1)
def noneFrom (C : Ctx) (ops : List Oper) (pre : List Nat) (i : Nat) : Nat → Nat → Bool
  | _, 0 => true
  | p, n + 1 => !(isBd C ops p && mayAt C ops pre i p ops 0) && noneFrom C ops pre i (p + 1) n
def lastOk2 (C : Ctx) (ops : List Oper) (pre : List Nat) (c m : Nat) : List Oper → Nat → Bool
  | [], _ => true
  | o :: os, i => (!isLoad o || (Nat.ble i c && noneFrom C ops pre i (c + 1) (m - c))) && lastOk2 C ops pre c m os (i + 1)
theorem none_of {C : Ctx} {ops : List Oper} {pre : List Nat} {i : Nat} : ∀ (n p : Nat), noneFrom C ops pre i p n = true → ∀ p', p ≤ p' → p' < p + n → (isBd C ops p' && mayAt C ops pre i p' ops 0) = false
  | 0, p, _, p', h1, h2 => by omega
  | n + 1, p, h, p', h1, h2 => by
    simp only [noneFrom, Bool.and_eq_true, Bool.not_eq_true'] at h
    by_cases hp : p' = p
    · subst hp; exact h.1
    · exact none_of n (p + 1) h.2 p' (by omega) (by omega)
theorem loadAts_of2 {C : Ctx} {ops : List Oper} {pre : List Nat} {i : Nat} {t : TypeId} {b off : Nat} {v : AV} {H0 : Heap} {c m : Nat} (hb : b < H0.n) (hl : loadE C t (.ptr b off) H0 = some v) (hs : v.same v = true)
    (hlast : ∀ p', c + 1 ≤ p' → p' ≤ m → (isBd C ops p' && mayAt C ops pre i p' ops 0) = false) :
    ∀ (tr : List (List AV × Heap)) (p : Nat), grC H0 c tr p → p + tr.length = m + 1 → loadAts C ops pre i t (.ptr b off) v tr p = true
  | [], _, _, _ => rfl
  | (T, H) :: r, p, hg, hp => by
    simp only [loadAts]
    simp at hp
    rw [loadAts_of2 hb hl hs hlast r (p + 1) hg.2 (by omega), Bool.and_true]
    cases hc : Nat.ble p c with
    | true =>
      have hg1 := hg.1
      rw [hc] at hg1
      rw [load_get (hg1 b hb), hl]
      simp [hs]
    | false =>
      have : ¬ p ≤ c := fun h => by rw [Nat.ble_eq_true_of_le h] at hc; cases hc
      rw [hlast p (by omega) (by omega)]
      simp
theorem loads_of2 {C : Ctx} {ops : List Oper} {pre : List Nat} {all : List (List AV × Heap)} {H0 : Heap} {c m : Nat} (hall : grC H0 c all 0) (hlen : all.length = m + 1) (hcm : c ≤ m) : ∀ (os : List Oper) (tr : List (List AV × Heap)) (i : Nat), ldsP C ops H0 os tr → grC H0 c tr i → lastOk2 C ops pre c m os i = true → loadsOk C ops pre all os tr i = true
  | [], tr, _, _, _, _ => by cases tr <;> rfl
  | o :: os, [], _, _, _, _ => rfl
  | o :: os, (T, H) :: tr, i, h, hg, hlast => by
    simp only [lastOk2, Bool.and_eq_true] at hlast
    simp only [loadsOk]
    rw [loads_of2 hall hlen hcm os tr (i + 1) h.2 hg.2 hlast.2, Bool.and_true]
    have h1 := h.1
    cases ho : o.op <;> simp only [ho] at h1 ⊢
    rename_i t x
    cases hw : Region.wanted o (ayielded ops T) with
    | false => simp
    | true =>
      simp only [hw] at h1
      obtain ⟨b, off, v, e1, e2, e3, e4⟩ := h1
      simp only [if_true, e1]
      have hl1 := hlast.1
      simp only [isLoad, ho, Bool.not_true, Bool.false_or, Bool.and_eq_true] at hl1
      have hg1 := hg.1
      rw [hl1.1] at hg1
      rw [load_get (hg1 b e2), e3]
      exact loadAts_of2 (m := m) e2 e3 e4 (fun p' q1 q2 => none_of _ _ hl1.2 p' q1 (by omega)) all 0 hall (by omega)
def atsP (b : Nat) (H0 : Heap) : List Bool → List (List AV × Heap) → Prop
  | true :: ms, x :: r => x.2.get b = H0.get b ∧ atsP b H0 ms r
  | false :: ms, _ :: r => atsP b H0 ms r
  | _, _ => True
def ldsM (C : Ctx) (ops : List Oper) (all : List (List AV × Heap)) : List (List Bool) → List Oper → List (List AV × Heap) → Prop
  | m :: ms, o :: os, (T, H) :: tr => (match o.op with
    | .load t x => (match Region.wanted o (ayielded ops T) with
      | true => ∃ b off v, opd T x = some (.ptr b off) ∧ loadE C t (.ptr b off) H = some v ∧ v.same v = true ∧ atsP b H m all
      | false => True)
    | _ => True) ∧ ldsM C ops all ms os tr
  | _, _, _ => True
def rowOk (C : Ctx) (ops : List Oper) (pre : List Nat) (i : Nat) : List Bool → Nat → Bool
  | [], p => Nat.beq p (ops.length + 1)
  | b :: bs, p => (!(isBd C ops p && mayAt C ops pre i p ops 0) || b) && rowOk C ops pre i bs (p + 1)
def msOk (C : Ctx) (ops : List Oper) (pre : List Nat) : List (List Bool) → List Oper → Nat → Bool
  | b :: bs, o :: os, i => (!isLoad o || rowOk C ops pre i b 0) && msOk C ops pre bs os (i + 1)
  | [], [], _ => true
  | _, _, _ => false
theorem loadAts_of3 {C : Ctx} {ops : List Oper} {pre : List Nat} {i : Nat} {t : TypeId} {b off : Nat} {v : AV} {H0 : Heap} (hl : loadE C t (.ptr b off) H0 = some v) (hs : v.same v = true) :
    ∀ (ms : List Bool) (tr : List (List AV × Heap)) (p : Nat), rowOk C ops pre i ms p = true → p + tr.length = ops.length + 1 → atsP b H0 ms tr → loadAts C ops pre i t (.ptr b off) v tr p = true
  | _, [], _, _, _, _ => rfl
  | [], (T, H) :: r, p, hr, hp, _ => by
    simp only [rowOk] at hr
    have := Nat.eq_of_beq_eq_true hr
    simp at hp; omega
  | m :: ms, (T, H) :: r, p, hr, hp, ha => by
    simp only [rowOk, Bool.and_eq_true] at hr
    simp only [loadAts]
    simp at hp
    cases m with
    | true =>
      rw [loadAts_of3 hl hs ms r (p + 1) hr.2 (by omega) ha.2, Bool.and_true, load_get ha.1, hl]
      simp [hs]
    | false =>
      rw [loadAts_of3 hl hs ms r (p + 1) hr.2 (by omega) ha, Bool.and_true]
      have h1 := hr.1
      rw [Bool.or_false] at h1
      rw [h1, Bool.true_or]
theorem loads_of3 {C : Ctx} {ops : List Oper} {pre : List Nat} {all : List (List AV × Heap)} (hlen : all.length = ops.length + 1) : ∀ (ms : List (List Bool)) (os : List Oper) (tr : List (List AV × Heap)) (i : Nat), msOk C ops pre ms os i = true → ldsM C ops all ms os tr → loadsOk C ops pre all os tr i = true
  | _, [], tr, _, _, _ => by cases tr <;> rfl
  | _, o :: os, [], _, _, _ => rfl
  | [], o :: os, (T, H) :: tr, i, hm, _ => by simp [msOk] at hm
  | m :: ms, o :: os, (T, H) :: tr, i, hm, h => by
    simp only [msOk, Bool.and_eq_true] at hm
    simp only [loadsOk]
    rw [loads_of3 hlen ms os tr (i + 1) hm.2 h.2, Bool.and_true]
    have h1 := h.1
    cases ho : o.op <;> simp only [ho] at h1 ⊢
    rename_i t x
    cases hw : Region.wanted o (ayielded ops T) with
    | false => simp
    | true =>
      simp only [hw] at h1
      obtain ⟨b, off, v, e1, e2, e3, e4⟩ := h1
      simp only [if_true, e1, e2]
      have hl1 := hm.1
      simp only [isLoad, ho, Bool.not_true, Bool.false_or] at hl1
      exact loadAts_of3 e2 e3 m all 0 hl1 (by omega) e4
end Go.PI
/- OPEN REGIONS WITH ALLOCATIONS behind which no operation of effect may come up ahead of them. -/
namespace Go.PI
def alBd (C : Ctx) (ops : List Oper) (pre : List Nat) (i : Nat) : Nat → Nat → Bool
  | _, 0 => true
  | p, n + 1 => !(isBd C ops p && decide (i < p) && mayAt C ops pre i p ops 0) && alBd C ops pre i (p + 1) n
def alNone (C : Ctx) (ops : List Oper) (pre : List Nat) : List Oper → Nat → Bool
  | [], _ => true
  | o :: os, i => (match kindOf C o.op with | .alloc => alBd C ops pre i 0 (ops.length + 1) | _ => true) && alNone C ops pre os (i + 1)
def alsP (C : Ctx) (ops : List Oper) : List Oper → List (List AV × Heap) → Prop
  | o :: os, (T, _) :: tr => (match kindOf C o.op with
    | .alloc => (match Region.wanted o (ayielded ops T) with
      | true => ∃ ty cs f, allocE C (opd T) o.op = some (.cells true ty cs, f)
      | false => True)
    | _ => True) ∧ alsP C ops os tr
  | _, _ => True
theorem allocAts_of4 {C : Ctx} {ops : List Oper} {pre : List Nat} {i A : Nat} {ty : TypeId} {cs : List AV} : ∀ (tr : List (List AV × Heap)) (p n : Nat), alBd C ops pre i p n = true → tr.length ≤ n → allocAts C ops pre i A ty cs tr p = true
  | [], _, _, _, _ => rfl
  | (T, H) :: r, p, 0, _, hl => by simp at hl
  | (T, H) :: r, p, n + 1, h, hl => by
    simp only [alBd, Bool.and_eq_true] at h
    simp only [allocAts]
    rw [allocAts_of4 r (p + 1) n h.2 (by simpa using hl), Bool.and_true, h.1, Bool.true_or]
theorem allocs_of4 {C : Ctx} {ops : List Oper} {pre : List Nat} {all : List (List AV × Heap)} (hlen : all.length = ops.length + 1) : ∀ (os : List Oper) (tr : List (List AV × Heap)) (i : Nat), alNone C ops pre os i = true → alsP C ops os tr → allocsOk C ops pre all os tr i = true
  | [], tr, _, _, _ => by cases tr <;> rfl
  | o :: os, [], _, _, _ => rfl
  | o :: os, (T, H) :: tr, i, h, ha => by
    simp only [alNone, Bool.and_eq_true] at h
    simp only [allocsOk]
    rw [allocs_of4 hlen os tr (i + 1) h.2 ha.2, Bool.and_true]
    have h1 := h.1
    have h2 := ha.1
    cases hk : kindOf C o.op <;> simp only [hk] at h1 h2 ⊢
    cases hw : Region.wanted o (ayielded ops T) with
    | false => simp
    | true =>
      simp only [hw] at h2
      obtain ⟨ty, cs, f, he⟩ := h2
      simp only [if_true, he]
      exact allocAts_of4 all 0 _ h1 (by omega)
def growS4 (C : Ctx) (ops : List Oper) (ms : List (List Bool)) : Bool := orderOk C ops (preList ops []) ops 0 && msOk C ops (preList ops []) ms ops 0 && alNone C ops (preList ops []) ops 0
theorem draw_of4 {C : Ctx} {ops : List Oper} {tr : List (List AV × Heap)} (ms : List (List Bool)) (hs : growS4 C ops ms = true) (hlen : tr.length = ops.length + 1) (hl : ldsM C ops tr ms ops tr) (ha : alsP C ops ops tr) (hm : mnP tr) : drawOk C ops tr = true := by
  simp only [growS4, Bool.and_eq_true] at hs
  unfold drawOk
  simp only [hs.1.1, loads_of3 hlen ms ops tr 0 hs.1.2 hl, allocs_of4 hlen ops tr 0 hs.2 ha, mono_of hm, Bool.and_self]
end Go.PI
