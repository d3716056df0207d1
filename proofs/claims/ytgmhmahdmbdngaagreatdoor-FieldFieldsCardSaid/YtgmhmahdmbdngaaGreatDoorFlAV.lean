/- Own work of the verifier: PiSturm PvInt PvUse PvVala PvBd PvValB PvPow. -/
import Derived.Test.YtgmhmahdmbdngaaGreatDoorFlAU
import Derived.Test.YtgmhmahdmbdngaaGreatDoorFlAL
import Derived.Test.YtgmhmahdmbdngaaGreatDoorFlAT
set_option linter.all false
set_option linter.deprecated false
namespace Go.PI
open IM
set_option maxRecDepth 10000
def sc (k : Int) (l : List Int) : List Int := l.map (k * ·)
theorem sc_length {k : Int} {l : List Int} : (sc k l).length = l.length := by simp [sc]
theorem sc_nil {k : Int} : sc k [] = [] := rfl
theorem sc_getD {k : Int} {l : List Int} {i : Nat} : (sc k l).getD i 0 = k * l.getD i 0 := by
 unfold sc
 simp only [List.getD_eq_getElem?_getD, List.getElem?_map]
 cases l[i]? with
 | none => simp
 | some x => simp
theorem sc_sc {a b : Int} {l : List Int} : sc a (sc b l) = sc (a * b) l := by
 simp only [sc, List.map_map]
 congr 1
 funext x
 simp [Int.mul_assoc]
theorem sc_neg {k : Int} {l : List Int} : (sc k l).map (fun x => -x) = sc k (l.map fun x => -x) := by
 simp only [sc, List.map_map]
 congr 1
 funext x
 simp [Int.mul_neg]
theorem trim_sc {k : Int} (hk : k ≠ 0) (l : List Int) : trimL (sc k l) = sc k (trimL l) := by
 induction l with
 | nil => rfl
 | cons x xs ih =>
  have e : sc k (x :: xs) = k * x :: sc k xs := rfl
  rw [e]
  simp only [trimL]
  rw [ih]
  cases h : trimL xs with
  | nil =>
   simp only [sc_nil]
   by_cases hx : x = 0
   ·subst hx; simp [sc]
   ·have : k * x ≠ 0 := fun h => by rcases Int.mul_eq_zero.1 h with h | h <;> contradiction
    simp [this, hx, sc]
  | cons y ys => rfl
theorem trim_snoc_zero (l : List Int) : trimL (l ++ [0]) = trimL l := trim_zeros l 1
theorem trim_len (l : List Int) : (trimL l).length <= l.length := (trim_take l).2.2
theorem sign_pos_mul {k x : Int} (hk : 0 < k) : Int.sign (k * x) = Int.sign x := by rw [Int.sign_mul, Int.sign_eq_one_of_pos hk, Int.one_mul]
def stepP (p q : List Int) : List Int :=
 trimL ((List.range (p.length - 1)).map fun i => p.getD i 0 * (q.getD (q.length - 1) 0).natAbs - if p.length - q.length <= i then p.getD (p.length - 1) 0 * Int.sign (q.getD (q.length - 1) 0) * q.getD (i - (p.length - q.length)) 0 else 0)
def stepR (p q : List Int) : List Int :=
 trimL ((List.range p.length).map fun i => p.getD i 0 * q.getD (q.length - 1) 0 * q.getD (q.length - 1) 0 - if p.length - q.length <= i then p.getD (p.length - 1) 0 * q.getD (q.length - 1) 0 * q.getD (i - (p.length - q.length)) 0 else 0)
theorem abs_sign (x : Int) : Int.sign x * (x.natAbs : Int) = x := Int.sign_mul_natAbs x
theorem abs_sq (x : Int) : (x.natAbs : Int) * x.natAbs = x * x := Int.natAbs_mul_self
theorem step_sc {p q : List Int} {c d : Int} (hc : 0 < c) (hd : 0 < d) (hq : 1 <= q.length) (hqp : q.length <= p.length) (hl : q.getD (q.length - 1) 0 ≠ 0) :
  stepR (sc c p) (sc d q) = sc (c * d * d * (q.getD (q.length - 1) 0).natAbs) (stepP p q) := by
 have hC : c * d * d * ((q.getD (q.length - 1) 0).natAbs : Int) ≠ 0 := by
  have h1 := Int.mul_pos (Int.mul_pos hc hd) hd
  have h2 : (0:Int) < (q.getD (q.length - 1) 0).natAbs := by omega
  have := Int.mul_pos h1 h2
  omega
 unfold stepR stepP
 rw [← trim_sc hC]
 simp only [sc_length, sc_getD]
 obtain ⟨m, hm⟩ : ∃ m, p.length = m + 1 := ⟨p.length - 1, by omega⟩
 rw [hm, List.range_succ, List.map_append, Nat.add_sub_cancel]
 generalize hL : q.getD (q.length - 1) 0 = L at *
 have htop : (List.map (fun i => c * p.getD i 0 * (d * L) * (d * L) - if m + 1 - q.length <= i then c * p.getD m 0 * (d * L) * (d * q.getD (i - (m + 1 - q.length)) 0) else 0) [m]) = [0] := by
  have e : m - (m + 1 - q.length) = q.length - 1 := by omega
  simp only [List.map_cons, List.map_nil, if_pos (show m + 1 - q.length <= m by omega), e, hL]
  congr 1
  omega
 rw [htop, trim_snoc_zero]
 congr 1
 unfold sc
 rw [List.map_map]
 apply List.map_congr_left
 intro i _
 simp only [Function.comp]
 have a1 := abs_sq L
 have a2 := abs_sign L
 by_cases h : m + 1 - q.length <= i
 ·simp only [if_pos h]
  generalize p.getD i 0 = x
  generalize p.getD m 0 = t
  generalize q.getD (i - (m + 1 - q.length)) 0 = y
  generalize (L.natAbs : Int) = A at *
  generalize Int.sign L = g at *
  grind
 ·simp only [if_neg h]
  generalize p.getD i 0 = x
  generalize (L.natAbs : Int) = A at *
  grind
theorem stepP_len {p q : List Int} (hp : 1 <= p.length) : (stepP p q).length < p.length := by
 unfold stepP
 have := trim_len ((List.range (p.length - 1)).map fun i => p.getD i 0 * (q.getD (q.length - 1) 0).natAbs - if p.length - q.length <= i then p.getD (p.length - 1) 0 * Int.sign (q.getD (q.length - 1) 0) * q.getD (i - (p.length - q.length)) 0 else 0)
 simp only [List.length_map, List.length_range] at this
 omega
def remP : Nat -> List Int -> List Int -> List Int
 | 0, p, _ => p
 | n + 1, p, q => if q.length <= p.length then remP n (stepP p q) q else p
def remR : Nat -> List Int -> List Int -> List Int
 | 0, p, _ => p
 | n + 1, p, q => if q.length <= p.length then remR n (stepR p q) q else p
def Pm (l l' : List Int) : Prop := ∃ k, 0 < k /\ l' = sc k l
theorem rem_pm {q q' : List Int} (hq : Pm q q') (h1 : 1 <= q.length) (hl : q.getD (q.length - 1) 0 ≠ 0) : ∀ (n : Nat) (p p' : List Int), Pm p p' -> Pm (remP n p q) (remR n p' q')
 | 0, _, _, h => h
 | n + 1, p, p', h => by
  obtain ⟨c, hc, rfl⟩ := h
  obtain ⟨d, hd, rfl⟩ := hq
  simp only [remP, remR, sc_length]
  by_cases hle : q.length <= p.length
  ·rw [if_pos hle, if_pos hle]
   refine rem_pm ⟨d, hd, rfl⟩ h1 hl n _ _ ⟨_, ?_, step_sc hc hd h1 hle hl⟩
   have h2 := Int.mul_pos (Int.mul_pos hc hd) hd
   exact Int.mul_pos h2 (by omega)
  ·rw [if_neg hle, if_neg hle]
   exact ⟨c, hc, rfl⟩
theorem top_map_neg {l : List Int} (h : Top l) : Top (l.map fun x => -x) := by
 rcases h with rfl | ⟨ys, t, rfl, ht⟩
 ·exact .inl rfl
 ·exact .inr ⟨ys.map (fun x => -x), -t, by simp, by omega⟩
theorem top_last_ne {l : List Int} (h : Top l) (hne : l ≠ []) : l.getD (l.length - 1) 0 ≠ 0 := by
 rcases h with rfl | ⟨ys, t, rfl, ht⟩
 ·exact absurd rfl hne
 ·simp [List.getD_eq_getElem?_getD, ht]
theorem stepP_top {p q : List Int} : Top (stepP p q) := trim_top _
theorem remP_top {q : List Int} : ∀ (n : Nat) {p : List Int}, Top p -> Top (remP n p q)
 | 0, _, h => h
 | n + 1, p, h => by
  simp only [remP]
  by_cases hle : q.length <= p.length
  ·rw [if_pos hle]; exact remP_top n stepP_top
  ·rw [if_neg hle]; exact h
theorem remP_len {q : List Int} (hq : 1 <= q.length) : ∀ (n : Nat) {p : List Int}, p.length <= n -> (remP n p q).length < q.length
 | 0, p, h => by
  simp only [remP]; omega
 | n + 1, p, h => by
  simp only [remP]
  by_cases hle : q.length <= p.length
  ·rw [if_pos hle]
   have := stepP_len (p := p) (q := q) (by omega)
   exact remP_len hq n (by omega)
  ·rw [if_neg hle]; omega
theorem Pm.neg {l l' : List Int} (h : Pm l l') : Pm (l.map fun x => -x) (l'.map fun x => -x) := by
 obtain ⟨k, hk, rfl⟩ := h
 exact ⟨k, hk, sc_neg⟩
theorem Pm.len {l l' : List Int} (h : Pm l l') : l'.length = l.length := by
 obtain ⟨k, hk, rfl⟩ := h
 exact sc_length
theorem Pm.refl (l : List Int) : Pm l l := ⟨1, by decide, by simp [sc]⟩
def chP : Nat -> List Int -> List Int -> List (List Int)
 | 0, p, q => [p, q]
 | n + 1, p, q => match remP p.length p q with
  | [] => [p, q]
  | r :: rs => p :: chP n q ((r :: rs).map fun x => -x)
def chR : Nat -> List Int -> List Int -> List (List Int)
 | 0, p, q => [p, q]
 | n + 1, p, q => match remR p.length p q with
  | [] => [p, q]
  | r :: rs => p :: chR n q ((r :: rs).map fun x => -x)
inductive Pms : List (List Int) -> List (List Int) -> Prop
 | nil : Pms [] []
 | cons {l l' ls ls'} : Pm l l' -> Pms ls ls' -> Pms (l :: ls) (l' :: ls')
theorem ch_pm : ∀ (n : Nat) {p p' q q' : List Int}, Pm p p' -> Pm q q' -> Top p -> Top q -> q ≠ [] -> Pms (chP n p q) (chR n p' q')
 | 0, _, _, _, _, hp, hq, _, _, _ => .cons hp (.cons hq .nil)
 | n + 1, p, p', q, q', hp, hq, tp, tq, hne => by
  have h1 : 1 <= q.length := by cases q with
   | nil => exact absurd rfl hne
   | cons x xs => simp
  have hr := rem_pm hq h1 (top_last_ne tq hne) p.length p p' hp
  have ht := remP_top (q := q) p.length tp
  simp only [chP, chR]
  rw [hp.len]
  generalize remP p.length p q = r at hr ht
  generalize remR p.length p' q' = r' at hr
  have hl := hr.len
  cases r with
  | nil => cases r' with
   | nil => exact .cons hp (.cons hq .nil)
   | cons y ys => simp at hl
  | cons x xs => cases r' with
   | nil => simp at hl
   | cons y ys => exact .cons hp (ch_pm n hq hr.neg tq (top_map_neg ht) (by simp))
def vS : List Int -> Int -> Int -> Int × Int
 | [], _, _ => (0, 1)
 | c :: cs, a, b => ((vS cs a b).1 * a + c * (vS cs a b).2, (vS cs a b).2 * b)
theorem vS_sc {k a b : Int} : ∀ l : List Int, vS (sc k l) a b = (k * (vS l a b).1, (vS l a b).2)
 | [] => by simp [sc, vS]
 | c :: cs => by
  have e : sc k (c :: cs) = k * c :: sc k cs := rfl
  rw [e]
  simp only [vS, vS_sc cs]
  rw [Int.mul_add, Int.mul_assoc, Int.mul_assoc]
def sgs (a b : Int) (ls : List (List Int)) : List Int := ls.map fun l => Int.sign (vS l a b).1
theorem sgs_eq {a b : Int} {ls ls' : List (List Int)} (h : Pms ls ls') : sgs a b ls' = sgs a b ls := by
 induction h with
 | nil => rfl
 | cons h _ ih =>
  obtain ⟨k, hk, rfl⟩ := h
  simp only [sgs, List.map_cons] at ih ⊢
  rw [ih, vS_sc, sign_pos_mul hk]
theorem sgs_small {a b : Int} {ls : List (List Int)} : ∀ s ∈ sgs a b ls, s = -1 ∨ s = 0 ∨ s = 1 := by
 intro s hs
 obtain ⟨l, _, rfl⟩ := List.mem_map.1 hs
 generalize (vS l a b).1 = x
 rcases Int.lt_trichotomy x 0 with h | h | h
 ·exact .inl (Int.sign_eq_neg_one_of_neg h)
 ·subst h; exact .inr (.inl rfl)
 ·exact .inr (.inr (Int.sign_eq_one_of_pos h))
def varP : List Int -> Int -> Int
 | [], _ => 0
 | s :: ss, b => (if s * b < 0 then 1 else 0) + varP ss (if s = 0 then b else s)
def varR : List Int -> Int -> Int
 | [], _ => 0
 | s :: ss, b => (if s = 0 then 0 else if b = 0 then 0 else if s = b then 0 else 1) + varR ss (if s = 0 then b else s)
theorem var_eq : ∀ (ss : List Int) (b : Int), (∀ s ∈ ss, s = -1 ∨ s = 0 ∨ s = 1) -> (b = -1 ∨ b = 0 ∨ b = 1) -> varP ss b = varR ss b
 | [], _, _, _ => rfl
 | s :: ss, b, h, hb => by
  have hs := h s (by simp)
  simp only [varP, varR]
  rw [var_eq ss _ (fun x hx => h x (by simp [hx])) (by split <;> assumption)]
  congr 1
  rcases hs with rfl | rfl | rfl <;> rcases hb with rfl | rfl | rfl <;> rfl
theorem counts {n : Nat} {p q : List Int} {a b : Int} (tp : Top p) (tq : Top q) (hq : q ≠ []) : varP (sgs a b (chP n p q)) 0 = varR (sgs a b (chR n p q)) 0 := by
 rw [sgs_eq (ch_pm n (Pm.refl p) (Pm.refl q) tp tq hq)]
 exact var_eq _ _ sgs_small (.inr (.inl rfl))
end Go.PI

open Go.Proofs
namespace Go.PI
open IM
set_option maxRecDepth 10000
set_option maxHeartbeats 1000000
def pIs (xs : List Int) : PV := .lst xs.length (xs.map pn)
def pI (X : Int) : PV := pIs (digits X)
def pR (L : List Int) : PV := .lst L.length (L.map pI)
def pC (Ls : List (List Int)) : PV := .lst Ls.length (Ls.map pR)
theorem ints_rel {H : Heap} {W : Nat -> Prop} : ∀ {xs : List Int} {l : List AV}, All2 (RelC H W) (xs.map pn) l -> l = ints xs
 | [], _, h => by cases h; rfl
 | x :: xs, _, h => by
  cases h with
  | cons h1 h2 =>
   cases h1
   rw [ints_rel h2]
   rfl
theorem rel_ints {H : Heap} {W : Nat -> Prop} : ∀ (xs : List Int), All2 (RelC H W) (xs.map pn) (ints xs)
 | [] => .nil
 | x :: xs => .cons (.int _ _) (rel_ints xs)
theorem sl_rel {H : Heap} {W : Nat -> Prop} {xs : List Int} {a : AV} (h : RelC H W (pIs xs) a) : Sl H a xs /\ Cp a := by
 have key : ∀ {n : Nat} {cs : List PV}, RelC H W (.lst n cs) a -> n = xs.length -> cs = xs.map pn -> Sl H a xs /\ Cp a := by
  intro n cs h hn hc
  cases h with
  | lnil => exact ⟨List.eq_nil_of_length_eq_zero hn.symm, trivial⟩
  | lsle => exact ⟨List.eq_nil_of_length_eq_zero hn.symm, trivial⟩
  | sl h1 h2 h3 h4 h5 =>
   subst hc
   rw [List.length_map] at h3 h5
   subst hn
   exact ⟨⟨rfl, _, _, _, h2, h3, ints_rel h5⟩, h4⟩
  | slu h1 h2 h3 h4 h5 =>
   subst hc
   rw [List.length_map] at h3 h4 h5
   subst hn
   refine ⟨⟨?_, rfl, _, _, _, h2, h3, ints_rel h5⟩, trivial⟩
   rcases Nat.eq_zero_or_pos xs.length with h0 | h0
   ·exact h4.2 h0
   ·have := h4.1
    rename_i e _ _ _
    have h6 : xs.length * e = xs.length * 1 := by omega
    exact Nat.eq_of_mul_eq_mul_left h0 h6
 exact key h rfl rfl
theorem rel_mine {H H' : Heap} {W : Nat -> Prop} {xs : List Int} {a : AV} (hw : ∀ b, W b -> b < H.n) (h : Mine H H.n a xs H') : RelC H' W (pIs xs) a := by
 obtain ⟨h1, h2, b, zs, ⟨h3, h4, h5⟩, h6, h7⟩ := h
 have hW : ¬ W b := fun h => by have := hw b h; omega
 have hb : 0 + (xs.map pn).length <= (ints zs).length := by simp [ints_length]; exact h4
 have hr : All2 (RelC H' W) (xs.map pn) (((ints zs).drop 0).take (xs.map pn).length) := by
  rw [List.drop_zero, List.length_map, ints_take, h6]
  exact rel_ints xs
 rcases h5 with ⟨c, rfl, h8, h9⟩ | rfl
 ·exact .sl hW h3 hb h8 hr
 ·exact .slu hW h3 hb ⟨by simp, fun _ => rfl⟩ hr
theorem mine_kp {H H' : Heap} {xs : List Int} {a : AV} {c : Nat} (h : Mine H H.n a xs H') (hc : H'.n <= H.n + c) : KpH H H' c := ⟨h.n, hc, fun A hA => h.keep A hA (by omega)⟩
theorem rel_keep {H H' : Heap} {W : Nat -> Prop} {p : PV} {a : AV} {c : Nat} (h : RelC H W p a) (k : KpH H H' c) : RelC H' W p a := h.mono (fun A hA _ => k.2.2 A hA) (fun _ _ h => h)
theorem KpH.refl (H : Heap) (c : Nat) : KpH H H c := ⟨Nat.le_refl _, by omega, fun _ _ => rfl⟩
theorem kp_of {H H' : Heap} {c : Nat} (k : Kp H H' c) : KpH H H' c := ⟨k.n, k.m, k.get⟩
variable (S : FuncId -> Option (List AV -> Heap -> Option (AV × Heap)))
theorem sign_ct (h : S 125 = none) {X : Int} (hl : (digits X).length <= 1000000) : Ct (ctx.plus S) 125 [pI X] 0 fun r => r = pn (Int.sign X) := by
 intro H W avs hw hr hn
 cases hr with
 | cons h1 hr =>
  cases hr
  refine (sign_run S h (by omega) (sl_rel h1).1).mono ?_
  rintro _ _ ⟨rfl, rfl⟩
  have hs : sgnL (digits X) = Int.sign X := by
   have hv := val_digits X
   rcases sgn_val (nrm_digits X) with ⟨a, b, c⟩ | ⟨a, b, c, -⟩ | ⟨a, b, c, -⟩
   ·rw [hv] at c; rw [a, c]; rfl
   ·rw [hv] at c; rw [a, Int.sign_eq_one_of_pos c]
   ·rw [hv] at c; rw [a, Int.sign_eq_neg_one_of_neg c]
  rw [hs]
  exact ⟨_, rfl, .int _ _, KpH.refl _ _⟩
theorem of_ct (hS : Old S) (h : S 26 = none) {n : Int} (hn : In64 n) : Ct (ctx.plus S) 26 [pn n] 12 fun r => r = pI n := by
 intro H W avs hw hr hl
 cases hr with
 | cons h1 hr =>
  cases hr
  cases h1
  refine (of_run2 S hS h hl hn).mono ?_
  rintro r H' ⟨hM, hm⟩
  exact ⟨_, rfl, rel_mine hw hM, mine_kp hM (by omega)⟩
theorem plus_ct (hS : Old S) (h : S 114 = none) {X Y f : Int} (lx : (digits X).length <= 1000000) (ly : (digits Y).length <= 1000000) (hf : -100000000 <= f /\ f <= 100000000) :
  Ct (ctx.plus S) 114 [pI X, pn f, pI Y] 20 fun r => r = pI (X + f * Y) := by
 intro H W avs hw hr hl
 cases hr with
 | cons h1 hr => cases hr with
  | cons h2 hr => cases hr with
   | cons h3 hr =>
    cases hr
    cases h2
    refine (plus_run2 S hS h hl (sl_rel h1).1 (sl_rel h3).1 lx ly (nrm_digits X).sml' (nrm_digits Y).sml' hf).mono ?_
    rintro r H' ⟨hM, hm⟩
    rw [val_digits, val_digits] at hM
    exact ⟨_, rfl, rel_mine hw hM, mine_kp hM (by omega)⟩
theorem prod_ct (hS : Old S) (h : S 116 = none) {X Y : Int} (lx : (digits X).length <= 511) (ly : (digits Y).length <= 1000000) :
  Ct (ctx.plus S) 116 [pI X, pI Y] 20 fun r => r = pI (X * Y) := by
 intro H W avs hw hr hl
 cases hr with
 | cons h1 hr => cases hr with
  | cons h2 hr =>
   cases hr
   refine (product_run2 S hS h hl (sl_rel h1).1 (sl_rel h2).1 lx ly (nrm_digits X).sml' (nrm_digits Y).sml').mono ?_
   rintro r H' ⟨hM, hm⟩
   rw [val_digits, val_digits] at hM
   split at hM
   ·rename_i hz
    obtain ⟨rfl, rfl⟩ := hM
    have e : X * Y = 0 := by
     rcases hz with h | h
     ·rw [digits_nil.1 h, Int.zero_mul]
     ·rw [digits_nil.1 h, Int.mul_zero]
    refine ⟨_, rfl, ?_, KpH.refl _ _⟩
    rw [e]
    exact .lnil
   ·exact ⟨_, rfl, rel_mine hw hM, mine_kp hM (by omega)⟩
theorem neg_ct (h : S 127 = none) {X : Int} (lx : (digits X).length <= 1000000) : Ct (ctx.plus S) 127 [pI X] 8 fun r => r = pI (-X) := by
 intro H W avs hw hr hl
 cases hr with
 | cons h1 hr =>
  cases hr
  have hs := (nrm_digits X).sml'
  refine (negative_run2 S h (by omega) (sl_rel h1).1 lx fun e he => by have := hs e he; unfold In64; omega).mono ?_
  rintro r H' ⟨hM, hm⟩
  unfold negL at hM
  rw [negd] at hM
  exact ⟨_, rfl, rel_mine hw hM, mine_kp hM (by omega)⟩
theorem size_ct (h186 : S 186 = none) (h125 : S 125 = none) (h127 : S 127 = none) {X : Int} (lx : (digits X).length <= 1000000) : Ct (ctx.plus S) 186 [pI X] 8 fun r => r = pI X.natAbs := by
 intro H W avs hw hr hl
 cases hr with
 | cons h1 hr =>
  cases hr
  have hs := (nrm_digits X).sml'
  have hv := val_digits X
  refine (size_run2 S h186 h125 h127 (by omega) (sl_rel h1).1 lx fun e he => by have := hs e he; unfold In64; omega).mono ?_
  rintro r H' ⟨hM, hm⟩
  by_cases hn : sgnL (digits X) < 0
  ·rw [if_pos hn] at hM
   have hX : X < 0 := by rcases sgn_val (nrm_digits X) with ⟨a, -, c⟩ | ⟨a, -, c, -⟩ | ⟨a, -, c, -⟩ <;> omega
   unfold negL at hM
   rw [negd, show -X = (X.natAbs : Int) by omega] at hM
   exact ⟨_, rfl, rel_mine hw hM, mine_kp hM (by omega)⟩
  ·rw [if_neg hn] at hM
   obtain ⟨rfl, rfl⟩ := hM
   have hX : 0 <= X := by rcases sgn_val (nrm_digits X) with ⟨a, -, c⟩ | ⟨a, -, c, -⟩ | ⟨a, -, c, -⟩ <;> omega
   refine ⟨_, rfl, ?_, KpH.refl _ _⟩
   rw [show (X.natAbs : Int) = X by omega]
   exact h1
/-! ### The reference -/
structure Rw (xs : List Int) (X : Int) : Prop where
 in64 : ∀ e ∈ xs, In64 e
 len : xs.length <= 200
 val : val xs = X
 dl : (digits X).length <= 200
theorem Rw.of {X : Int} (h : (digits X).length <= 200) : Rw (digits X) X := ⟨fun e he => by have := (nrm_digits X).sml' e he; unfold In64; omega, h, val_digits X, h⟩
theorem Rw.one {c : Int} (h : -100000000 < c /\ c < 100000000) : Rw [c] c := by
 have p1 : pw 1 = 100000000 := by decide
 have hl : (digits c).length <= 1 := len_of (k := 1) (by omega)
 refine ⟨fun e he => ?_, by simp, by simp [IM.val], by omega⟩
 simp at he
 subst he
 unfold In64; omega
theorem svb_rel {H : Heap} {W : Nat -> Prop} {xs : List Int} {X : Int} {a : AV} (h : RelC H W (pIs xs) a) (hX : Rw xs X) : SVB H a xs X :=
 ⟨(sl_rel h).1, hX.in64, hX.len, hX.val, hX.dl⟩
theorem radd_ct (hR : OldR S) {xs ys : List Int} {X Y : Int} (hx : Rw xs X) (hy : Rw ys Y) : Ct (ctx.plus S) 28 [pIs xs, pIs ys] 100000 fun r => r = pI (X + Y) := by
 intro H W avs hw hr hl
 cases hr with
 | cons h1 hr => cases hr with
  | cons h2 hr =>
   cases hr
   refine (radd_runB S hR hl (svb_rel h1 hx) (svb_rel h2 hy)).mono ?_
   rintro r H' ⟨hM, hm⟩
   exact ⟨_, rfl, rel_mine hw hM, mine_kp hM (by omega)⟩
theorem rsub_ct (hR : OldR S) {xs ys : List Int} {X Y : Int} (hx : Rw xs X) (hy : Rw ys Y) : Ct (ctx.plus S) 30 [pIs xs, pIs ys] 200000 fun r => r = pI (X - Y) := by
 intro H W avs hw hr hl
 cases hr with
 | cons h1 hr => cases hr with
  | cons h2 hr =>
   cases hr
   refine (rsub_runB S hR hl (svb_rel h1 hx) (svb_rel h2 hy)).mono ?_
   rintro r H' ⟨hM, hm⟩
   exact ⟨_, rfl, rel_mine hw hM, mine_kp hM (by omega)⟩
theorem rneg_ct (hR : OldR S) {xs : List Int} {X : Int} (hx : Rw xs X) : Ct (ctx.plus S) 115 [pIs xs] 100000 fun r => r = pI (-X) := by
 intro H W avs hw hr hl
 cases hr with
 | cons h1 hr =>
  cases hr
  refine (rneg_runB S hR hl (svb_rel h1 hx)).mono ?_
  rintro r H' ⟨hM, hm⟩
  exact ⟨_, rfl, rel_mine hw hM, mine_kp hM (by omega)⟩
theorem rmul_ct (hR : OldR S) {xs ys : List Int} {X Y : Int} (hx : Rw xs X) (hy : Rw ys Y) (lxy : (digits X).length + (digits Y).length <= 200) : Ct (ctx.plus S) 32 [pIs xs, pIs ys] 3000000 fun r => r = pI (X * Y) := by
 intro H W avs hw hr hl
 cases hr with
 | cons h1 hr => cases hr with
  | cons h2 hr =>
   cases hr
   refine (rmul_runB S hR hl (svb_rel h1 hx) (svb_rel h2 hy) lxy).mono ?_
   rintro r H' ⟨hM, hm⟩
   exact ⟨_, rfl, rel_mine hw hM, mine_kp hM (by omega)⟩
theorem cmpI_sign (X : Int) : cmpI X 0 = Int.sign X := by
 unfold cmpI
 rcases Int.lt_trichotomy X 0 with h | h | h
 ·rw [if_pos h, Int.sign_eq_neg_one_of_neg h]
 ·subst h; rfl
 ·rw [if_neg (by omega), if_pos h, Int.sign_eq_one_of_pos h]
theorem rsign_ct (hR : OldR S) {xs : List Int} {X : Int} (hx : Rw xs X) : Ct (ctx.plus S) 117 [pIs xs] 100000 fun r => r = pn (Int.sign X) := by
 intro H W avs hw hr hl
 cases hr with
 | cons h1 hr =>
  cases hr
  have h3 := hx.len
  have h4 := hx.dl
  refine (rsign_runB S hR hl (sl_rel h1).1 hx.in64 (by omega) hx.val (by omega)).mono ?_
  rintro _ H' ⟨rfl, k⟩
  rw [cmpI_sign]
  have := k.m
  exact ⟨_, rfl, .int _ _, kp_of (k.le (by omega))⟩
theorem at_map {α : Type} {f : α -> PV} {L : List α} {i : Nat} {x : α} (h : L[i]? = some x) : (L.map f)[i]? = some (f x) := by simp [h]
theorem ld {cs : List PV} {j q : Nat} {v : PV} (h : cs[j]? = some v) (hq : q = j) : (cs.drop q)[0]? = some v := by
 subst hq
 rw [List.getElem?_drop, Nat.add_zero]
 exact h
end Go.PI

namespace Go.PI
def Fz (v : PV) (σ : List StB) (p : PV) (σ' : List StB) : Prop := ∀ K : PV -> List StB -> Prop, K p σ' -> frzAK σ v K
theorem fzL {n : Nat} {cs : List PV} {σ : List StB} : Fz (.lst n cs) σ (.lst n cs) σ := fun _ h => h
theorem fzN {σ : List StB} : Fz .nils σ (.lst 0 []) σ := fun _ h => h
theorem fzI {k : IntKind} {n : Int} {σ : List StB} : Fz (.int k n) σ (.int k n) σ := fun _ h => h
def Fzs (v : PV) (σ : List StB) (p : PV) : Prop := ∃ σ', Fz v σ p σ' /\ Fz v σ' p σ' /\ (∀ i, contOf σ' i = contOf σ i) /\ σ'.length = σ.length
theorem fzs_own {i n c e : Nat} {σ : List StB} {ty : TypeId} {cs cs' : List PV} (h : contOf σ i = some (ty, cs)) (hl : n * e <= cs.length) (hc : n <= c) (ht : cs.take (n * e) = cs') : Fzs (.own i 0 n c e) σ (.lst n cs') := by
 have h2 := contOf_set h
 refine ⟨σ.set i (.frz ty cs), fun K hK => ⟨ty, cs, cs', h, by omega, by simpa using ht, hK⟩, fun K hK => ⟨ty, cs, cs', by rw [h2]; exact h, by omega, by simpa using ht, ?_⟩, h2, by simp⟩
 rw [List.set_set]
 exact hK
theorem fzs_any {v p : PV} (h : ∀ σ, Fz v σ p σ) {σ : List StB} : Fzs v σ p := ⟨σ, h σ, h σ, fun _ => rfl, rfl⟩
variable {C : Ctx} {c k d : Nat} {σ σ1 σ2 σ3 : List StB} {g : FuncId} {K : PV -> List StB -> Nat -> Prop} {Q : PV -> Prop}
theorem callc {ps : List PV} (h : Ct C g ps d Q) (hk : k + d <= c) (hK : ∀ r, Q r -> K r σ (k + d)) : pcallK C c k σ g ps K := ⟨⟨d, hk, .inl ⟨Q, h, hK⟩⟩⟩
def clo : PV -> Bool
 | .lst _ _ | .int _ _ | .bool _ | .str _ | .nilp | .nilf | .nili | .fn _ | .lptr _ => true
 | _ => false
def clos : List PV -> Bool
 | [] => true
 | p :: ps => clo p && clos ps
theorem frzK_clo {p : PV} (h : clo p = true) {K : PV -> List StB -> Prop} (hK : K p σ) : frzK σ p K := by
 cases p <;> first | exact hK | cases h
theorem frzsK_clo : ∀ {ps : List PV} {K : List PV -> List StB -> Prop}, clos ps = true -> K ps σ -> frzsK σ ps K
 | [], K, _, h => h
 | p :: ps, K, hc, h => by
  simp only [clos, Bool.and_eq_true] at hc
  exact frzK_clo hc.1 (frzsK_clo hc.2 h)
def cloA : PV -> Bool
 | .agg cs => clos cs
 | p => clo p
theorem frzAK_clo {p : PV} (h : cloA p = true) {K : PV -> List StB -> Prop} (hK : K p σ) : frzAK σ p K := by
 cases p <;> simp only [cloA, clo] at h <;> first | cases h; done | exact hK | skip
 exact frzsK_clo h hK
def cloAs : List PV -> Bool
 | [] => true
 | p :: ps => cloA p && cloAs ps
theorem frzAsK_clo : ∀ {ps : List PV} {K : List PV -> List StB -> Prop}, cloAs ps = true -> K ps σ -> frzAsK σ ps K
 | [], K, _, h => h
 | p :: ps, K, hc, h => by
  simp only [cloAs, Bool.and_eq_true] at hc
  exact frzAK_clo hc.1 (frzAsK_clo hc.2 h)
theorem callq {ps : List PV} (hc : cloAs ps = true) (h : Ct C g ps d Q) (hk : k + d <= c) (hK : ∀ r, Q r -> K r σ (k + d)) : ArgK C c k σ g ps K := ⟨.inl (frzAsK_clo hc (callc h hk hK))⟩
theorem callqf {ps : List PV} {Q : TypeId -> Nat -> Nat -> Nat -> List PV -> Prop} (hc : cloAs ps = true) (h : Cfr C g ps d Q) (hk : k + d <= c) (hK : ∀ ty n cp e cs, Q ty n cp e cs -> K (.own σ.length 0 n cp e) (σ ++ [.live ty cs]) (k + d)) : ArgK C c k σ g ps K := ⟨.inl (frzAsK_clo hc ⟨⟨d, hk, .inr ⟨Q, h, hK⟩⟩⟩)⟩
theorem cal1 {v p : PV} (h1 : Fz v σ p σ1) (h : Ct C g [p] d Q) (hk : k + d <= c) (hK : ∀ r, Q r -> K r σ1 (k + d)) : ArgK C c k σ g [v] K := ⟨.inl (h1 _ (callc h hk hK))⟩
theorem cal2 {v w p q : PV} (h1 : Fz v σ p σ1) (h2 : Fz w σ1 q σ2) (h : Ct C g [p, q] d Q) (hk : k + d <= c) (hK : ∀ r, Q r -> K r σ2 (k + d)) : ArgK C c k σ g [v, w] K :=
 ⟨.inl (h1 _ (h2 _ (callc h hk hK)))⟩
theorem cal3 {v w u p q r : PV} (h1 : Fz v σ p σ1) (h2 : Fz w σ1 q σ2) (h3 : Fz u σ2 r σ3) (h : Ct C g [p, q, r] d Q) (hk : k + d <= c) (hK : ∀ r, Q r -> K r σ3 (k + d)) : ArgK C c k σ g [v, w, u] K :=
 ⟨.inl (h1 _ (h2 _ (h3 _ (callc h hk hK))))⟩
theorem calb {v p : PV} {ps : List PV} (h1 : ∀ K : PV -> List StB -> Prop, K p σ -> lendK σ v K) (hc : cloAs ps = true) (hn : ∀ q ∈ ps, (match q with | .lptr _ => false | _ => true) = true) (h : Cb C g (p :: ps) d Q) (hk : k + d <= c) (hK : ∀ r, Q r -> K r σ (k + d)) : ArgK C c k σ g (v :: ps) K := by
 refine ⟨.inr (h1 _ ?_)⟩
 have key : ∀ (ps : List PV) (K : List PV -> List StB -> Prop), cloAs ps = true -> (∀ q ∈ ps, (match q with | .lptr _ => false | _ => true) = true) -> K ps σ -> lendsK σ ps K := by
  intro ps
  induction ps with
  | nil => exact fun K _ _ h => h
  | cons q qs ih =>
   intro K hc hn hK
   simp only [cloAs, Bool.and_eq_true] at hc
   have h2 := hn q (by simp)
   have h3 : lendsK σ qs fun ps' σ'' => K (q :: ps') σ'' := ih _ hc.2 (fun r hr => hn r (by simp [hr])) hK
   have h4 : frzAK σ q fun p' σ' => lendsK σ' qs fun ps' σ'' => K (p' :: ps') σ'' := frzAK_clo hc.1 h3
   show lendK σ q _
   unfold lendK
   split
   ·cases hc.1
   ·cases hc.1
   ·cases h2
   ·exact h4
 exact key ps _ hc hn ⟨d, Q, hk, h, hK⟩
theorem lend_own {i : Nat} {ty : TypeId} {cs : List PV} (h : contOf σ i = some (ty, cs)) : ∀ K : PV -> List StB -> Prop, K (.bptr cs) σ -> lendK σ (.optr i 0) K := fun K hK => ⟨ty, cs, h, Nat.zero_le _, hK⟩
theorem lend_b {cs : List PV} : ∀ K : PV -> List StB -> Prop, K (.bptr cs) σ -> lendK σ (.bptr cs) K := fun K hK => hK
theorem endq {p : PV} {Q : PV -> Prop} (h : cloA p = true) (hq : Q p) : EndK σ p Q := ⟨frzAK_clo h hq⟩
theorem endf {v p : PV} {Q : PV -> Prop} (h : Fz v σ p σ1) (hq : Q p) : EndK σ v Q := ⟨h _ hq⟩
theorem endsq {ps : List PV} {Q : PV -> Prop} (h : cloAs ps = true) (hq : Q (.tup ps)) : EndsK σ ps Q := ⟨frzAsK_clo h hq⟩
/-! ### A slice that grows by append -/
theorem contOf_live {σ : List StB} {j : Nat} {t : TypeId} {cs : List PV} (h : σ[j]? = some (.live t cs)) : contOf σ j = some (t, cs) := by unfold contOf; rw [h]; rfl
def Gr {α : Type} (f : α -> PV) (e : TypeId) (v : PV) (σ : List StB) (Xs : List α) : Prop :=
 (v = .nils /\ Xs = []) ∨ (∃ j ty, v = .own j 0 Xs.length Xs.length 1 /\ contOf σ j = some (ty, Xs.map f)) ∨ (∃ j, v = .ownu j Xs.length 1 /\ σ[j]? = some (.live e (Xs.map f)))
theorem Gr.nil {α : Type} {f : α -> PV} {e : TypeId} {σ : List StB} : Gr f e .nils σ [] := .inl ⟨rfl, rfl⟩
theorem Gr.fz {α : Type} {f : α -> PV} {e : TypeId} {v : PV} {σ : List StB} {Xs : List α} (h : Gr f e v σ Xs) : ∃ σ', Fz v σ (.lst Xs.length (Xs.map f)) σ' := by
 rcases h with ⟨rfl, rfl⟩ | ⟨j, ty, rfl, h⟩ | ⟨j, rfl, h⟩
 ·exact ⟨σ, fzN⟩
 ·exact ⟨_, fun K hK => ⟨ty, _, _, h, ⟨by simp, by omega⟩, by rw [List.drop_zero, List.take_of_length_le (by simp)], hK⟩⟩
 ·exact ⟨_, fun K hK => ⟨e, _, _, contOf_live h, ⟨by simp, fun _ => rfl⟩, by rw [List.take_of_length_le (by simp)], hK⟩⟩
theorem contOf_lt {σ : List StB} {j : Nat} {x : TypeId × List PV} (h : contOf σ j = some x) : j < σ.length := by
 unfold contOf at h
 cases hj : σ[j]? with
 | none => rw [hj] at h; cases h
 | some y => exact (List.getElem?_eq_some_iff.1 hj).1
theorem contOf_app {σ : List StB} {b : StB} {j : Nat} {x : TypeId × List PV} (h : contOf σ j = some x) : contOf (σ ++ [b]) j = some x := by
 have hj := contOf_lt h
 unfold contOf at h ⊢
 rw [List.getElem?_append_left hj]
 exact h
theorem Gr.push {α : Type} {f : α -> PV} {e : TypeId} {v : PV} {σ : List StB} {Xs : List α} {b : StB} (h : Gr f e v σ Xs) : Gr f e v (σ ++ [b]) Xs := by
 rcases h with ⟨rfl, rfl⟩ | ⟨j, ty, rfl, h⟩ | ⟨j, rfl, h⟩
 ·exact .inl ⟨rfl, rfl⟩
 ·exact .inr (.inl ⟨j, ty, rfl, contOf_app h⟩)
 ·exact .inr (.inr ⟨j, rfl, by rw [List.getElem?_append_left (List.getElem?_eq_some_iff.1 h).1]; exact h⟩)
def blkOf : PV -> Option Nat
 | .own j _ _ _ _ => some j
 | .ownu j _ _ => some j
 | _ => none
theorem Gr.keep {α : Type} {f : α -> PV} {e : TypeId} {v : PV} {σ σ' : List StB} {Xs : List α} (h : Gr f e v σ Xs) (k : ∀ j b, blkOf v = some j -> σ[j]? = some b -> σ'[j]? = some b) : Gr f e v σ' Xs := by
 rcases h with ⟨rfl, rfl⟩ | ⟨j, ty, rfl, h⟩ | ⟨j, rfl, h⟩
 ·exact .inl ⟨rfl, rfl⟩
 ·refine .inr (.inl ⟨j, ty, rfl, ?_⟩)
  unfold contOf at h ⊢
  cases hj : σ[j]? with
  | none => rw [hj] at h; cases h
  | some y => rw [hj] at h; rw [k j y rfl hj]; exact h
 ·exact .inr (.inr ⟨j, rfl, k j _ rfl h⟩)
theorem Gr.blk {α : Type} {f : α -> PV} {e : TypeId} {v : PV} {σ : List StB} {Xs : List α} (h : Gr f e v σ Xs) {j : Nat} (hj : blkOf v = some j) : j < σ.length := by
 rcases h with ⟨rfl, rfl⟩ | ⟨j', ty, rfl, h⟩ | ⟨j', rfl, h⟩
 ·cases hj
 ·cases hj; exact contOf_lt h
 ·cases hj; exact (List.getElem?_eq_some_iff.1 h).1
def Cn {α : Type} (f : α -> PV) (v : PV) (σ : List StB) (Xs : List α) : Prop :=
 (v = .nils /\ Xs = []) ∨ ∃ j ty, contOf σ j = some (ty, Xs.map f) /\ (v = .own j 0 Xs.length Xs.length 1 ∨ v = .ownu j Xs.length 1)
theorem Gr.cn {α : Type} {f : α -> PV} {e : TypeId} {v : PV} {σ : List StB} {Xs : List α} (h : Gr f e v σ Xs) : Cn f v σ Xs := by
 rcases h with h | ⟨j, ty, rfl, h⟩ | ⟨j, rfl, h⟩
 ·exact .inl h
 ·exact .inr ⟨j, ty, h, .inl rfl⟩
 ·exact .inr ⟨j, e, contOf_live h, .inr rfl⟩
theorem Cn.same {α : Type} {f : α -> PV} {v : PV} {σ σ' : List StB} {Xs : List α} (h : Cn f v σ Xs) (k : ∀ j, contOf σ' j = contOf σ j) : Cn f v σ' Xs := by
 rcases h with h | ⟨j, ty, h, h2⟩
 ·exact .inl h
 ·exact .inr ⟨j, ty, by rw [k]; exact h, h2⟩
theorem Cn.push {α : Type} {f : α -> PV} {v : PV} {σ : List StB} {Xs : List α} {b : StB} (h : Cn f v σ Xs) : Cn f v (σ ++ [b]) Xs := by
 rcases h with h | ⟨j, ty, h, h2⟩
 ·exact .inl h
 ·exact .inr ⟨j, ty, contOf_app h, h2⟩
theorem Cn.fz {α : Type} {f : α -> PV} {v : PV} {σ : List StB} {Xs : List α} (h : Cn f v σ Xs) : ∃ σ', Fz v σ (.lst Xs.length (Xs.map f)) σ' /\ (∀ j, contOf σ' j = contOf σ j) /\ σ'.length = σ.length /\ ∀ j b, blkOf v ≠ some j -> σ[j]? = some b -> σ'[j]? = some b := by
 rcases h with ⟨rfl, rfl⟩ | ⟨j, ty, h, rfl | rfl⟩
 ·exact ⟨σ, fzN, fun _ => rfl, rfl, fun _ _ _ h => h⟩
 ·refine ⟨_, fun K hK => ⟨ty, _, _, h, ⟨by simp, by omega⟩, by rw [List.drop_zero, List.take_of_length_le (by simp)], hK⟩, contOf_set h, by simp, fun j' b hj hb => ?_⟩
  rw [List.getElem?_set_ne (fun e => hj (by rw [← e]; rfl))]; exact hb
 ·refine ⟨_, fun K hK => ⟨ty, _, _, h, ⟨by simp, fun _ => rfl⟩, by rw [List.take_of_length_le (by simp)], hK⟩, contOf_set h, by simp, fun j' b hj hb => ?_⟩
  rw [List.getElem?_set_ne (fun e => hj (by rw [← e]; rfl))]; exact hb
theorem part1 {v p : PV} {i : Nat} {K : List (Nat × PV) -> List StB -> Prop} (h1 : Fz v σ p σ1) (hK : K [(i, p)] σ1) : PartK σ [(i, v)] K := ⟨h1 _ hK⟩
theorem part2 {v w p q : PV} {i j : Nat} {K : List (Nat × PV) -> List StB -> Prop} (h1 : Fz v σ p σ1) (h2 : Fz w σ1 q σ2) (hK : K [(i, p), (j, q)] σ2) : PartK σ [(i, v), (j, w)] K := ⟨h1 _ (h2 _ hK)⟩
theorem appG {α : Type} {f : α -> PV} {e t tx : TypeId} {rest : List TypeId} {v : PV} {Xs : List α} {y : α} {i m : Nat} {ty : TypeId} {σ : List StB} {ti xi ei : TI} (hg : Gr f e v σ Xs) (hx : contOf σ i = some (ty, [f y])) (ht : C.ty t = some ti) (htd : ti.desc = .slice e) (htx : C.ty tx = some xi) (he : C.ty e = some ei) (hd : decide (srcOk xi.desc = true /\ ei.bytes <= 2 ^ 10) = true) (hs : ei.size = 1) (ho : (f y).one = true)
  (hl : Xs.length <= 1000000) (hk : k < c) (hK : ∀ v' σ', Gr f e v' σ' (Xs ++ [y]) -> (∀ j b, blkOf v ≠ some j -> σ[j]? = some b -> σ'[j]? = some b) -> blkOf v' = some σ.length -> K v' σ' (k + 1)) : AppK C c k σ (t :: tx :: rest) v (.own i 0 1 1 m) K := by
 refine ⟨?_⟩
 obtain ⟨desc, sz, by', z⟩ := ti
 simp only at htd
 subst htd
 unfold pappK
 simp only [ht, htx, he, hd]
 have hxi := contOf_lt hx
 refine ⟨ty, [f y], [f y], hx, by rw [hs]; simp, by rw [hs]; rfl, ⟨by decide, by simp [pones, ho]⟩, ?_⟩
 have hnew : ∀ {σ' : List StB}, σ'.length = σ.length -> Gr f e (.ownu σ.length (Xs.length + 1) 1) (σ' ++ [.live e (Xs.map f ++ [f y])]) (Xs ++ [y]) := fun {σ'} h =>
  .inr (.inr ⟨σ.length, by simp, by rw [← h]; simp⟩)
 have hold : ∀ {b : StB} {j : Nat} {x : StB}, σ[j]? = some x -> (σ ++ [b])[j]? = some x := fun h => by rw [List.getElem?_append_left (List.getElem?_eq_some_iff.1 h).1]; exact h
 rcases hg with ⟨rfl, rfl⟩ | ⟨j, ty2, rfl, h⟩ | ⟨j, rfl, h⟩
 ·refine ⟨(fun h => by cases h), fun _ => ⟨hk, ?_⟩⟩
  rw [hs]
  exact hK _ _ (hnew rfl) (fun j b _ hb => hold hb) rfl
 ·refine ⟨by omega, (fun h => by omega), fun _ => ⟨hk, ty2, Xs.map f, Xs.map f ++ [f y], h, by rw [hs]; simp, by rw [hs, List.drop_zero, List.take_of_length_le (by simp)], ?_⟩⟩
  rw [hs]
  exact hK _ _ (hnew rfl) (fun j b _ hb => hold hb) rfl
 ·refine ⟨⟨by omega, hs.symm, hk⟩, Xs.map f, Xs.map f ++ [f y], h, by rw [hs]; simp, by rw [hs, List.take_of_length_le (by simp)], ?_⟩
  refine hK _ _ (hnew (by simp)) (fun j' b hj hb => ?_) rfl
  have hne : j ≠ j' := fun e => hj (by rw [← e]; rfl)
  rw [List.getElem?_append_left (by rw [List.length_set]; exact (List.getElem?_eq_some_iff.1 hb).1), List.getElem?_set_ne hne]
  exact hb
theorem pexpand (T : List PV) : T = (List.range T.length).map fun i => T.getD i undefP := by
 apply List.ext_getElem?
 intro i
 simp only [List.getElem?_map, List.getD_eq_getElem?_getD]
 by_cases h : i < T.length
 ·simp [h]
 ·simp [h]
/-! ### A slice that is filled, one element after the other -/
section
variable {α : Type}
def fillc (f : α -> PV) (z : PV) (n : Nat) (L : List α) : List PV := L.map f ++ List.replicate (n - L.length) z
variable {f : α -> PV} {z : PV} {n q : Nat} {L : List α} {x y : α}
theorem fillc_zero : (List.replicate n [z]).flatten = fillc f z n [] := by simp [fillc, List.flatten_replicate_singleton]
theorem fillc_len (h : L.length <= n) : (fillc f z n L).length = n := by simp [fillc]; omega
theorem fillc_next (h : L.length < n) (hq : q = L.length) : pspl (fillc f z n L) q [f x] = fillc f z n (L ++ [x]) := by
 subst hq
 obtain ⟨m, hm⟩ : ∃ m, n - L.length = m + 1 := ⟨n - L.length - 1, by omega⟩
 have hm2 : n - (L ++ [x]).length = m := by simp; omega
 unfold pspl fillc
 rw [hm, hm2, List.take_left' (by simp), List.drop_append]
 simp [List.replicate_succ]
theorem fillc_again (h : L.length < n) (hq : q = L.length) : pspl (fillc f z n (L ++ [x])) q [f y] = fillc f z n (L ++ [y]) := by
 subst hq
 unfold pspl fillc
 simp only [List.map_append, List.map_cons, List.map_nil, List.length_append, List.length_singleton, List.append_assoc]
 rw [List.take_left' (by simp), List.drop_append]
 simp
theorem fillc_full (h : L.length = n) : fillc f z n L = L.map f := by simp [fillc, h]
theorem fillc_done (h : L.length = n) : ((fillc f z n L).drop 0).take (n * 1) = L.map f := by rw [fillc_full h, List.drop_zero, List.take_of_length_le (by simp; omega)]
theorem fillc_get (h : L.length < n) : (fillc f z n (L ++ [x]))[L.length]? = some (f x) := by simp [fillc]
end
theorem len_map_le {α : Type} {f : α -> PV} {L : List α} {q : Nat} (h : q <= L.length) : q * 1 <= (L.map f).length := by rw [List.length_map]; omega
end Go.PI

open Go.Proofs
namespace Go.PI
open IM
set_option maxRecDepth 10000
set_option maxHeartbeats 4000000
theorem fn242 : ctx.fn 242 = some c242 := by kernel_rfl
theorem vS_bound {a b : Int} {k : Nat} (ha : -1000000 <= a /\ a <= 1000000) (hb : -1000000 <= b /\ b <= 1000000) : ∀ l : List Int, (∀ c ∈ l, -pw k < c /\ c < pw k) →
  (-pw (k + l.length) < (vS l a b).1 /\ (vS l a b).1 < pw (k + l.length)) /\ (-pw l.length <= (vS l a b).2 /\ (vS l a b).2 <= pw l.length)
 | [], _ => by
  have := pw_pos k
  simp [vS, pw]; omega
 | c :: cs, h => by
  have h1 := h c (by simp)
  obtain ⟨h2, h3⟩ := vS_bound ha hb cs fun x hx => h x (by simp [hx])
  have p1 := pw_pos (k + cs.length)
  have p2 := pw_pos cs.length
  have e1 : pw (k + (c :: cs).length) = 100000000 * pw (k + cs.length) := by rw [List.length_cons, ← Nat.add_assoc]; rfl
  have e2 : pw (c :: cs).length = 100000000 * pw cs.length := by rw [List.length_cons]; rfl
  have e3 : pw (k + cs.length) = pw k * pw cs.length := pw_add _ _
  have m1 := mul_bd (a := (vS cs a b).1) (b := a) (m := pw (k + cs.length)) (n := 1000000) (by omega) ha
  have m2 := mul_bd (a := c) (b := (vS cs a b).2) (m := pw k) (n := pw cs.length) (by omega) h3
  have m3 := mul_bd (a := (vS cs a b).2) (b := b) (m := pw cs.length) (n := 1000000) h3 hb
  rw [← e3] at m2
  simp only [vS]
  rw [e1, e2]
  omega
variable (S : FuncId -> Option (List AV -> Heap -> Option (AV × Heap)))
theorem pI0 : pI 0 = .lst 0 [] := rfl
theorem valueAt_ct (hS : OldI S) (h242 : S 242 = none) {L : List Int} {a b : Int} {k : Nat} (ha : -1000000 <= a /\ a <= 1000000) (hb : -1000000 <= b /\ b <= 1000000)
  (hL : ∀ c ∈ L, -pw k < c /\ c < pw k) (hk : k <= 200) (hl : L.length <= 8) :
  Ct (ctx.plus S) 242 [pR L, pI a, pI b] 1000 fun r => r = pI (vS L a b).1 := by
 refine ct_of h242 fn242 ?_
 have p1 : pw 1 = 100000000 := by decide
 have la : (digits a).length <= 1 := len_of (k := 1) (by omega)
 have lb : (digits b).length <= 1 := len_of (k := 1) (by omega)
 have bnd : ∀ j, (digits (vS (L.drop j) a b).1).length <= 208 /\ (digits (vS (L.drop j) a b).2).length <= 9 := fun j => by
  obtain ⟨h1, h2⟩ := vS_bound (k := k) ha hb (L.drop j) fun c hc => hL c (List.mem_of_mem_drop hc)
  have hd : (L.drop j).length <= 8 := by simp; omega
  have m1 := pw_mono (show k + (L.drop j).length <= 208 by omega)
  have m2 := pw_mono (show (L.drop j).length <= 8 by omega)
  have e9 : pw 9 = 100000000 * pw 8 := rfl
  have := pw_pos 8
  exact ⟨len_of (by omega), len_of (by omega)⟩
 refine ⟨by omega, _, rfl, ?_⟩
 refine ⟨⟨by omega, by omega⟩, ?_⟩
 refine ⟨fun m s => ∃ (i : Nat) (n : Int) (v sc : PV) (σ : List StB) (q : Nat) (j3 j4 j5 j6 ja jb jc jd je jf jg jh ji jj jk jl jm jn jo jp jq jr js jt ju jv : PV),
  s = ⟨[pR L, pI a, pI b, j3, j4, j5, j6, v, sc, pn n, ja, jb, jc, jd, je, jf, jg, jh, ji, jj, jk, jl, jm, jn, jo, jp, jq, jr, js, jt, ju, jv], σ, q⟩ /\ m = i /\ n = (i : Int) - 1 /\ i <= L.length /\ (∀ σ, Fz v σ (pI (vS (L.drop i) a b).1) σ) /\ Fzs sc σ (pI (vS (L.drop i) a b).2) /\ q <= 1 + 80 * (L.length - i), ⟨L.length, ?_⟩, ?_⟩
 ·refine ci ⟨L.length, _, _, _, _, _, _, _, _, _, _, _, _, _, _, _, _, _, _, _, _, _, _, _, _, _, _, _, _, _, _, _, rfl, rfl, rfl, Nat.le_refl _, ?_, ?_, by omega⟩
  ·rw [List.drop_length]; exact fun σ => fzN
  ·rw [List.drop_length]; exact fzs_own rfl (by decide) (by decide) rfl
 ·rintro m s ⟨i, n, v, sc, σ, q, j3, j4, j5, j6, ja, jb, jc, jd, je, jf, jg, jh, ji, jj, jk, jl, jm, jn, jo, jp, jq, jr, js, jt, ju, jv, rfl, hm, rfl, hi, hv, ⟨σ', hs1, hs2, -⟩, hq⟩
  refine ⟨fun hge => ?_, fun hlt => ?_⟩
  ·obtain ⟨i, rfl⟩ : ∃ j, i = j + 1 := ⟨i - 1, by omega⟩
   obtain ⟨c, he⟩ : ∃ e, L[i]? = some e := ⟨L[i]'(by omega), List.getElem?_eq_getElem _⟩
   have hcb := hL c (List.mem_of_getElem? he)
   have hd : L.drop i = c :: L.drop (i + 1) := drop_of_get he
   have hb1 := bnd (i + 1)
   have lc : (digits c).length <= 200 := len_of (by have := pw_mono hk; omega)
   have v1 := vS_bound (k := k) ha hb (L.drop (i + 1)) fun c hc => hL c (List.mem_of_mem_drop hc)
   have hd8 : (L.drop (i + 1)).length <= 7 := by simp; omega
   have m7 := pw_mono (show k + (L.drop (i + 1)).length <= 207 by omega)
   have m8 := pw_mono (show (L.drop (i + 1)).length <= 7 by omega)
   have e208 : pw 208 = 100000000 * pw 207 := rfl
   have e207 : pw k * pw 7 <= pw 207 := by rw [← pw_add]; exact pw_mono (by omega)
   have x1 := mul_bd (a := (vS (L.drop (i + 1)) a b).1) (b := a) (m := pw 207) (n := 1000000) (by omega) ha
   have x2 := mul_bd (a := c) (b := (vS (L.drop (i + 1)) a b).2) (m := pw k) (n := pw 7) (by omega) (by omega)
   have p207 := pw_pos 207
   have l1 : (digits ((vS (L.drop (i + 1)) a b).1 * a)).length <= 208 := len_of (by omega)
   have l2 : (digits (c * (vS (L.drop (i + 1)) a b).2)).length <= 208 := len_of (by omega)
   refine ⟨by kernel_rfl, ?_⟩
   refine cal2 (hv _) fzL (prod_ct S hS.o hS.h116 (X := (vS (L.drop (i + 1)) a b).1) (Y := a) (by omega) (by omega)) (by omega) ?_
   rintro _ rfl
   refine ⟨⟨⟨by omega, by omega⟩, len_map_le (by omega)⟩, ?_⟩
   refine ⟨_, ld (at_map he) (by show _ * 1 = i; omega), rfl, ?_⟩
   refine cal2 fzL hs1 (prod_ct S hS.o hS.h116 (X := c) (Y := (vS (L.drop (i + 1)) a b).2) (by omega) (by omega)) (by omega) ?_
   rintro _ rfl
   refine callq rfl ((plus_ct S hS.o hS.h114 (X := (vS (L.drop (i + 1)) a b).1 * a) (f := 1) (Y := c * (vS (L.drop (i + 1)) a b).2) (by omega) (by omega) (by omega)).post fun r h => h.trans (congrArg pI (show _ = (vS (L.drop i) a b).1 by rw [hd, Int.one_mul]; rfl))) (by omega) ?_
   rintro _ rfl
   refine cal2 hs2 fzL (prod_ct S hS.o hS.h116 (X := (vS (L.drop (i + 1)) a b).2) (Y := b) (by omega) (by omega)) (by omega) ?_
   rintro _ rfl
   refine ⟨⟨by omega, by omega⟩, ?_⟩
   refine ⟨i, by omega, ci ⟨i, _, _, _, _, _, _, _, _, _, _, _, _, _, _, _, _, _, _, _, _, _, _, _, _, _, _, _, _, _, _, _, rfl, rfl, by omega, by omega, ?_, ?_, by omega⟩⟩
   ·exact fun σ => fzL
   ·rw [hd]; exact fzs_any fun σ => fzL
  ·have e : i = 0 := by omega
   subst e
   exact endf (hv _) rfl
end Go.PI

namespace Go.PI
open IM
set_option maxRecDepth 10000
def B2 (e : Nat) (x : Int) : Prop := -(2:Int)^e <= x /\ x <= 2^e
theorem two_pos (e : Nat) : (0:Int) < 2^e := Int.pow_pos (by decide)
theorem two_mono {a b : Nat} (h : a <= b) : (2:Int)^a <= 2^b := by
 obtain ⟨d, rfl⟩ := Nat.exists_eq_add_of_le h
 rw [Int.pow_add]
 have h1 := two_pos a
 have h2 := two_pos d
 have : (2:Int)^a * 1 <= 2^a * 2^d := Int.mul_le_mul_of_nonneg_left (by omega) (by omega)
 omega
theorem B2.mono {a b : Nat} {x : Int} (h : B2 a x) (hab : a <= b) : B2 b x := by
 have := two_mono hab
 unfold B2 at *
 omega
theorem B2.mul {a b : Nat} {x y : Int} (h : B2 a x) (k : B2 b y) : B2 (a + b) (x * y) := by
 unfold B2 at *
 rw [Int.pow_add]
 exact mul_bd h k
theorem B2.sub {e : Nat} {x y : Int} (h : B2 e x) (k : B2 e y) : B2 (e + 1) (x - y) := by
 unfold B2 at *
 rw [Int.pow_succ]
 omega
theorem B2.neg {e : Nat} {x : Int} (h : B2 e x) : B2 e (-x) := by
 unfold B2 at *
 omega
theorem B2.zero (e : Nat) : B2 e 0 := by
 have := two_pos e
 unfold B2
 omega
theorem B2.abs {e : Nat} {x : Int} (h : B2 e x) : B2 e x.natAbs := by
 unfold B2 at *
 omega
theorem B2.sign {e : Nat} (x : Int) : B2 e (Int.sign x) := by
 have h1 : (1:Int) <= 2^e := by have := two_pos e; omega
 unfold B2
 rcases Int.lt_trichotomy x 0 with h | h | h
 ·rw [Int.sign_eq_neg_one_of_neg h]; omega
 ·subst h; simp; omega
 ·rw [Int.sign_eq_one_of_pos h]; omega
theorem pw_two26 (k : Nat) : (2:Int)^(26 * k) <= pw k := by
 induction k with
 | zero => decide
 | succ k ih =>
  rw [pw_succ, show 26 * (k + 1) = 26 * k + 26 by omega, Int.pow_add]
  have h1 := two_pos (26 * k)
  have : (2:Int)^26 = 67108864 := by decide
  omega
theorem B2.dig {e k : Nat} {x : Int} (h : B2 e x) (hk : e <= 26 * k) : (digits x).length <= k + 1 := by
 have h1 := two_mono hk
 have h2 := pw_two26 k
 have h3 : pw (k + 1) = 100000000 * pw k := pw_succ k
 have h4 := pw_pos k
 unfold B2 at h
 exact len_of ⟨by omega, by omega⟩
def B2s (e : Nat) (L : List Int) : Prop := ∀ x ∈ L, B2 e x
theorem B2s.mono {a b : Nat} {L : List Int} (h : B2s a L) (hab : a <= b) : B2s b L := fun x hx => (h x hx).mono hab
theorem B2s.getD {e : Nat} {L : List Int} (h : B2s e L) (i : Nat) : B2 e (L.getD i 0) := by
 rw [List.getD_eq_getElem?_getD]
 cases hi : L[i]? with
 | none => exact B2.zero e
 | some x => exact h x (List.mem_of_getElem? hi)
theorem B2s.trim {e : Nat} {L : List Int} (h : B2s e L) : B2s e (trimL L) := by
 have h1 : trimL L = L.take (trimL L).length := (trim_take L).1
 intro x hx
 rw [h1] at hx
 exact h x (List.mem_of_mem_take hx)
theorem B2s.map_neg {e : Nat} {L : List Int} (h : B2s e L) : B2s e (L.map fun x => -x) := fun x hx => by
 obtain ⟨y, hy, rfl⟩ := List.mem_map.1 hx
 exact (h y hy).neg
def elP (p q : List Int) (i : Nat) : Int := p.getD i 0 * (q.getD (q.length - 1) 0).natAbs - if p.length - q.length <= i then p.getD (p.length - 1) 0 * Int.sign (q.getD (q.length - 1) 0) * q.getD (i - (p.length - q.length)) 0 else 0
def elR (p q : List Int) (i : Nat) : Int := p.getD i 0 * q.getD (q.length - 1) 0 * q.getD (q.length - 1) 0 - if p.length - q.length <= i then p.getD (p.length - 1) 0 * q.getD (q.length - 1) 0 * q.getD (i - (p.length - q.length)) 0 else 0
theorem stepP_el (p q : List Int) : stepP p q = trimL ((List.range (p.length - 1)).map (elP p q)) := rfl
theorem stepR_el (p q : List Int) : stepR p q = trimL ((List.range p.length).map (elR p q)) := rfl
theorem elP_bd {a b : Nat} {p q : List Int} (hp : B2s a p) (hq : B2s b q) (i : Nat) : B2 (a + b + 1) (elP p q i) := by
 unfold elP
 refine B2.sub ((hp.getD i).mul (hq.getD _).abs) ?_
 split
 ·have := ((hp.getD (p.length - 1)).mul (B2.sign (e := 0) (q.getD (q.length - 1) 0))).mul (hq.getD (i - (p.length - q.length)))
  exact this
 ·exact B2.zero _
theorem elR_bd {a b : Nat} {p q : List Int} (hp : B2s a p) (hq : B2s b q) (i : Nat) : B2 (a + 2 * b + 1) (elR p q i) := by
 unfold elR
 refine B2.sub ?_ ?_
 ·exact (((hp.getD i).mul (hq.getD _)).mul (hq.getD _)).mono (by omega)
 ·split
  ·exact (((hp.getD (p.length - 1)).mul (hq.getD _)).mul (hq.getD _)).mono (by omega)
  ·exact B2.zero _
theorem stepP_bd {a b : Nat} {p q : List Int} (hp : B2s a p) (hq : B2s b q) : B2s (a + b + 1) (stepP p q) := by
 rw [stepP_el]
 refine B2s.trim fun x hx => ?_
 obtain ⟨i, -, rfl⟩ := List.mem_map.1 hx
 exact elP_bd hp hq i
theorem stepR_bd {a b : Nat} {p q : List Int} (hp : B2s a p) (hq : B2s b q) : B2s (a + 2 * b + 1) (stepR p q) := by
 rw [stepR_el]
 refine B2s.trim fun x hx => ?_
 obtain ⟨i, -, rfl⟩ := List.mem_map.1 hx
 exact elR_bd hp hq i
theorem remP_bd {q : List Int} {b : Nat} (hq : B2s b q) (h1 : 1 <= q.length) : ∀ (n : Nat) {a : Nat} {p : List Int}, B2s a p -> B2s (a + (p.length + 1 - q.length) * (b + 1)) (remP n p q)
 | 0, a, p, hp => hp.mono (by omega)
 | n + 1, a, p, hp => by
  simp only [remP]
  by_cases hle : q.length <= p.length
  ·rw [if_pos hle]
   have hl := stepP_len (p := p) (q := q) (by omega)
   refine (remP_bd hq h1 n (stepP_bd hp hq)).mono ?_
   have hm : ((stepP p q).length + 1 - q.length) * (b + 1) + (b + 1) <= (p.length + 1 - q.length) * (b + 1) := by
    rw [← Nat.succ_mul]
    exact Nat.mul_le_mul_right _ (by omega)
   omega
  ·rw [if_neg hle]
   exact hp.mono (by omega)
def Siz (lp lq ep eq : Nat) : Prop := (lp = 5 /\ lq = 4 /\ ep = 12 /\ eq = 12) ∨ (lp = 4 /\ 1 <= lq /\ lq <= 3 /\ ep = 12 /\ eq = 62) ∨ (lp = 3 /\ 1 <= lq /\ lq <= 2 /\ ep = 62 /\ eq = 262) ∨ (lp = 2 /\ lq = 1 /\ ep = 262 /\ eq = 1112)
theorem Siz.next {lp lq l ep eq : Nat} (h : Siz lp lq ep eq) (h1 : 1 <= l) (h2 : l < lq) : ∃ ep' eq', Siz lq l ep' eq' /\ eq <= ep' /\ ep + (lp + 1 - lq) * (2 * eq + 1) <= eq' := by
 rcases h with ⟨rfl, rfl, rfl, rfl⟩ | ⟨rfl, h3, h4, rfl, rfl⟩ | ⟨rfl, h3, h4, rfl, rfl⟩ | ⟨rfl, rfl, rfl, rfl⟩
 ·exact ⟨12, 62, .inr (.inl ⟨rfl, h1, by omega, rfl, rfl⟩), by omega, by omega⟩
 ·have : lq = 3 ∨ lq = 2 := by omega
  rcases this with rfl | rfl
  ·exact ⟨62, 262, .inr (.inr (.inl ⟨rfl, h1, by omega, rfl, rfl⟩)), by omega, by omega⟩
  ·exact ⟨262, 1112, .inr (.inr (.inr ⟨rfl, by omega, rfl, rfl⟩)), by omega, by omega⟩
 ·exact ⟨262, 1112, .inr (.inr (.inr ⟨by omega, by omega, rfl, rfl⟩)), by omega, by omega⟩
 ·omega
theorem Siz.le {lp lq ep eq : Nat} (h : Siz lp lq ep eq) : ep + (lp + 1 - lq) * (2 * eq + 1) <= 4800 /\ 1 <= lq /\ lq < lp /\ lp <= 5 /\ eq <= 1112 /\ ep <= 262 := by
 rcases h with ⟨rfl, rfl, rfl, rfl⟩ | ⟨rfl, h3, h4, rfl, rfl⟩ | ⟨rfl, h3, h4, rfl, rfl⟩ | ⟨rfl, rfl, rfl, rfl⟩
 ·omega
 ·have : lq = 3 ∨ lq = 2 ∨ lq = 1 := by omega
  rcases this with rfl | rfl | rfl <;> omega
 ·have : lq = 2 ∨ lq = 1 := by omega
  rcases this with rfl | rfl <;> omega
 ·omega
end Go.PI

open Go.Proofs
namespace Go.PI
open IM
set_option maxRecDepth 10000
set_option maxHeartbeats 4000000
theorem B2.add {e : Nat} {x y : Int} (h : B2 e x) (k : B2 e y) : B2 (e + 1) (x + y) := by
 unfold B2 at *
 rw [Int.pow_succ]
 omega
theorem vS_B2 {a b : Int} {e g : Nat} (ha : B2 g a) (hb : B2 g b) : ∀ l : List Int, B2s e l -> B2 (e + (g + 1) * l.length) (vS l a b).1 /\ B2 (g * l.length) (vS l a b).2
 | [], _ => ⟨B2.zero _, by simp [vS, B2]⟩
 | c :: cs, h => by
  obtain ⟨h1, h2⟩ := vS_B2 ha hb cs fun x hx => h x (by simp [hx])
  have hc := h c (by simp)
  have e1 : e + (g + 1) * (c :: cs).length = (e + (g + 1) * cs.length + g) + 1 := by rw [List.length_cons, Nat.mul_add]; omega
  have e2 : g * (c :: cs).length = g * cs.length + g := by rw [List.length_cons, Nat.mul_add]; omega
  have e3 : (g + 1) * cs.length = g * cs.length + cs.length := by rw [Nat.add_mul]; omega
  rw [e1, e2]
  exact ⟨(h1.mul ha).add ((hc.mul h2).mono (by omega)), h2.mul hb⟩
variable (S : FuncId -> Option (List AV -> Heap -> Option (AV × Heap)))
theorem valueB_ct (hS : OldI S) (h242 : S 242 = none) {L : List Int} {a b : Int} {e g : Nat} (ha : B2 g a) (hb : B2 g b) (hL : B2s e L) (hg : e + (g + 1) * 8 <= 13000) (hl : L.length <= 8) :
  Ct (ctx.plus S) 242 [pR L, pI a, pI b] 1000 fun r => r = pI (vS L a b).1 := by
 refine ct_of h242 fn242 ?_
 have la : (digits a).length <= 501 := (ha.mono (b := 13000) (by omega)).dig (by omega)
 have lb : (digits b).length <= 501 := (hb.mono (b := 13000) (by omega)).dig (by omega)
 have vb : ∀ j, B2 13000 (vS (L.drop j) a b).1 /\ B2 13000 (vS (L.drop j) a b).2 := fun j => by
  obtain ⟨h1, h2⟩ := vS_B2 ha hb (L.drop j) fun c hc => hL c (List.mem_of_mem_drop hc)
  have hd : (L.drop j).length <= 8 := by simp; omega
  have m1 : (g + 1) * (L.drop j).length <= (g + 1) * 8 := Nat.mul_le_mul_left _ hd
  have m2 : g * (L.drop j).length <= g * 8 := Nat.mul_le_mul_left _ hd
  exact ⟨h1.mono (by omega), h2.mono (by omega)⟩
 have bnd : ∀ j, (digits (vS (L.drop j) a b).1).length <= 501 /\ (digits (vS (L.drop j) a b).2).length <= 501 := fun j => ⟨(vb j).1.dig (by omega), (vb j).2.dig (by omega)⟩
 refine ⟨by omega, _, rfl, ?_⟩
 refine ⟨⟨by omega, by omega⟩, ?_⟩
 refine ⟨fun m s => ∃ (i : Nat) (n : Int) (v sc : PV) (σ : List StB) (q : Nat) (j3 j4 j5 j6 ja jb jc jd je jf jg jh ji jj jk jl jm jn jo jp jq jr js jt ju jv : PV),
  s = ⟨[pR L, pI a, pI b, j3, j4, j5, j6, v, sc, pn n, ja, jb, jc, jd, je, jf, jg, jh, ji, jj, jk, jl, jm, jn, jo, jp, jq, jr, js, jt, ju, jv], σ, q⟩ /\ m = i /\ n = (i : Int) - 1 /\ i <= L.length /\ (∀ σ, Fz v σ (pI (vS (L.drop i) a b).1) σ) /\ Fzs sc σ (pI (vS (L.drop i) a b).2) /\ q <= 1 + 80 * (L.length - i), ⟨L.length, ?_⟩, ?_⟩
 ·refine ci ⟨L.length, _, _, _, _, _, _, _, _, _, _, _, _, _, _, _, _, _, _, _, _, _, _, _, _, _, _, _, _, _, _, _, rfl, rfl, rfl, Nat.le_refl _, ?_, ?_, by omega⟩
  ·rw [List.drop_length]; exact fun σ => fzN
  ·rw [List.drop_length]; exact fzs_own rfl (by decide) (by decide) rfl
 ·rintro m s ⟨i, n, v, sc, σ, q, j3, j4, j5, j6, ja, jb, jc, jd, je, jf, jg, jh, ji, jj, jk, jl, jm, jn, jo, jp, jq, jr, js, jt, ju, jv, rfl, hm, rfl, hi, hv, ⟨σ', hs1, hs2, -⟩, hq⟩
  refine ⟨fun hge => ?_, fun hlt => ?_⟩
  ·obtain ⟨i, rfl⟩ : ∃ j, i = j + 1 := ⟨i - 1, by omega⟩
   obtain ⟨c, he⟩ : ∃ e, L[i]? = some e := ⟨L[i]'(by omega), List.getElem?_eq_getElem _⟩
   have hcb := hL c (List.mem_of_getElem? he)
   have hd : L.drop i = c :: L.drop (i + 1) := drop_of_get he
   have hb1 := bnd (i + 1)
   have lc : (digits c).length <= 501 := (hcb.mono (b := 13000) (by omega)).dig (by omega)
   have l1 : (digits ((vS (L.drop (i + 1)) a b).1 * a)).length <= 1001 := ((vb (i + 1)).1.mul (ha.mono (b := 13000) (by omega))).dig (by omega)
   have l2 : (digits (c * (vS (L.drop (i + 1)) a b).2)).length <= 1001 := ((hcb.mono (b := 13000) (by omega)).mul (vb (i + 1)).2).dig (by omega)
   refine ⟨by kernel_rfl, ?_⟩
   refine cal2 (hv _) fzL (prod_ct S hS.o hS.h116 (X := (vS (L.drop (i + 1)) a b).1) (Y := a) (by omega) (by omega)) (by omega) ?_
   rintro _ rfl
   refine ⟨⟨⟨by omega, by omega⟩, len_map_le (by omega)⟩, ?_⟩
   refine ⟨_, ld (at_map he) (by show _ * 1 = i; omega), rfl, ?_⟩
   refine cal2 fzL hs1 (prod_ct S hS.o hS.h116 (X := c) (Y := (vS (L.drop (i + 1)) a b).2) (by omega) (by omega)) (by omega) ?_
   rintro _ rfl
   refine callq rfl ((plus_ct S hS.o hS.h114 (X := (vS (L.drop (i + 1)) a b).1 * a) (f := 1) (Y := c * (vS (L.drop (i + 1)) a b).2) (by omega) (by omega) (by omega)).post fun r h => h.trans (congrArg pI (show _ = (vS (L.drop i) a b).1 by rw [hd, Int.one_mul]; rfl))) (by omega) ?_
   rintro _ rfl
   refine cal2 hs2 fzL (prod_ct S hS.o hS.h116 (X := (vS (L.drop (i + 1)) a b).2) (Y := b) (by omega) (by omega)) (by omega) ?_
   rintro _ rfl
   refine ⟨⟨by omega, by omega⟩, ?_⟩
   refine ⟨i, by omega, ci ⟨i, _, _, _, _, _, _, _, _, _, _, _, _, _, _, _, _, _, _, _, _, _, _, _, _, _, _, _, _, _, _, _, rfl, rfl, by omega, by omega, ?_, ?_, by omega⟩⟩
   ·exact fun σ => fzL
   ·rw [hd]; exact fzs_any fun σ => fzL
  ·have e : i = 0 := by omega
   subst e
   exact endf (hv _) rfl
end Go.PI

open Go.Proofs
namespace Go.PI
open IM
set_option maxRecDepth 10000
set_option maxHeartbeats 4000000
theorem fn159 : ctx.fn 159 = some c159 := by kernel_rfl
theorem pow_even (A y : Int) (h : Nat) : A * y ^ (2 * h + 0) = A * (y * y) ^ h := by
 rw [Nat.add_zero, Int.pow_mul, Int.pow_succ, Int.pow_succ, Int.pow_zero, Int.one_mul]
theorem pow_odd (A y : Int) (h : Nat) : A * y ^ (2 * h + 1) = A * y * (y * y) ^ h := by
 rw [Int.pow_succ, Int.pow_mul, Int.pow_succ, Int.pow_succ, Int.pow_zero, Int.one_mul]
 grind
variable (S : FuncId -> Option (List AV -> Heap -> Option (AV × Heap)))
theorem power_ct (hS : OldI S) (h159 : S 159 = none) {x : Int} {g n : Nat} (hx : B2 g x) (hg1 : 1 <= g) (hg : g * n <= 6500) (hn : n <= 1000) :
  Ct (ctx.plus S) 159 [pI x, pn n] 50000 fun r => r = pI (x ^ n) := by
 refine ct_of h159 fn159 ?_
 refine ⟨by omega, _, rfl, ?_⟩
 refine ⟨fun mm s => ∃ (m p q : Nat) (A y : Int) (acc : PV) (σ : List StB) (k : Nat) (j2 j3 j4 j6 j7 j8 j9 ja jb jc jd je jf jg jh ji jj jk jl jm : PV),
  s = ⟨[pI y, pn m, j2, j3, j4, acc, j6, j7, j8, j9, ja, jb, jc, jd, je, jf, jg, jh, ji, jj, jk, jl, jm], σ, k⟩ /\ mm = m /\ A * y ^ m = x ^ n /\ B2 (g * p) y /\ B2 (g * q) A /\ q + p * m <= n /\ (m = n ∨ p <= n) /\ Fzs acc σ (pI A) /\ m <= n /\ k + 40 * m <= 1 + 40 * n, ⟨n, ?_⟩, ?_⟩
 ·exact ci ⟨n, 1, 0, 1, x, _, _, _, _, _, _, _, _, _, _, _, _, _, _, _, _, _, _, _, _, _, _, _, rfl, rfl, by omega, by simpa using hx, by simp [B2], by omega, .inl rfl, fzs_own rfl (by decide) (by decide) rfl, by omega, by omega⟩
 ·rintro mm s ⟨m, p, q, A, y, acc, σ, k, j2, j3, j4, j6, j7, j8, j9, ja, jb, jc, jd, je, jf, jg, jh, ji, jj, jk, jl, jm, rfl, rfl, hAy, hy, hA, hpq, hp, ⟨σ', hs1, hs2, hs3, hs4⟩, hmn, hk⟩
  refine ⟨fun h1 => ?_, fun h1 => ?_⟩
  ·have hpm : p <= p * mm := by
    have := Nat.mul_le_mul_left p (show 1 <= mm by omega)
    omega
   have hgq : g * q <= g * n := Nat.mul_le_mul_left g (by omega)
   have hgp : g * p <= g * n := Nat.mul_le_mul_left g (by omega)
   have ly : (digits y).length <= 251 := (hy.mono (b := 6500) (by omega)).dig (by omega)
   have lA : (digits A).length <= 251 := (hA.mono (b := 6500) (by omega)).dig (by omega)
   have em : ((mm : Int).tmod 2) = ((mm % 2 : Nat) : Int) := by rw [Int.tmod_eq_emod_of_nonneg (by omega)]; omega
   have ed : ((mm : Int).tdiv 2) = ((mm / 2 : Nat) : Int) := by rw [Int.tdiv_eq_ediv_of_nonneg (by omega)]; omega
   refine ⟨by omega, ?_⟩
   rw [em]
   have hk2 : k + 40 <= 1 + 40 * n := by omega
   refine ⟨fun h2 => ?_, fun h2 => ?_⟩
   ·obtain ⟨h, hh⟩ : ∃ h, mm / 2 = h := ⟨_, rfl⟩
    have hm2 : mm = 2 * h + 1 := by omega
    have e5 : p * mm = 2 * p * h + p * 1 := by rw [hm2]; grind
    rw [hm2] at hAy
    refine cal2 hs1 fzL (prod_ct S hS.o hS.h116 (X := A) (Y := y) (by omega) (by omega)) (by omega) ?_
    rintro _ rfl
    refine ⟨fun h3 => ?_, fun h3 => ?_⟩
    ·refine callq rfl (prod_ct S hS.o hS.h116 (X := y) (Y := y) (by omega) (by omega)) (by omega) ?_
     rintro _ rfl
     refine ⟨⟨by omega, by rw [ed]; unfold In64; omega⟩, ?_⟩
     rw [ed]
     refine ⟨mm / 2, by omega, ci ⟨mm / 2, 2 * p, q + p, A * y, y * y, _, _, _, _, _, _, _, _, _, _, _, _, _, _, _, _, _, _, _, _, _, _, _, rfl, rfl, ?_, ?_, by rw [Nat.mul_add]; exact hA.mul hy, ?_, .inr ?_, fzs_any fun σ => fzL, by omega, by omega⟩⟩
     ·rw [hh, ← hAy]; exact (pow_odd _ _ _).symm
     ·rw [show g * (2 * p) = g * p + g * p by grind]; exact hy.mul hy
     ·rw [hh]; omega
     ·have := Nat.mul_le_mul_left p (show 2 <= mm by omega); omega
    ·refine ⟨⟨by omega, by rw [ed]; unfold In64; omega⟩, ?_⟩
     rw [ed]
     have e1 : mm = 1 := by omega
     refine ⟨mm / 2, by omega, ci ⟨mm / 2, p, q + p, A * y, y, _, _, _, _, _, _, _, _, _, _, _, _, _, _, _, _, _, _, _, _, _, _, _, rfl, rfl, ?_, hy, by rw [Nat.mul_add]; exact hA.mul hy, ?_, .inr ?_, fzs_any fun σ => fzL, by omega, by omega⟩⟩
     ·have h0 : h = 0 := by omega
      rw [hh, ← hAy, h0]; simp [Int.pow_succ]
     ·have h0 : h = 0 := by omega
      rw [hh, h0]; omega
     ·omega
   ·obtain ⟨h, hh⟩ : ∃ h, mm / 2 = h := ⟨_, rfl⟩
    have hm2 : mm = 2 * h + 0 := by omega
    have e5 : p * mm = 2 * p * h + p * 0 := by rw [hm2]; grind
    rw [hm2] at hAy
    refine id ?_
    skip
    refine ⟨fun h3 => ?_, fun h3 => ?_⟩
    ·refine callq rfl (prod_ct S hS.o hS.h116 (X := y) (Y := y) (by omega) (by omega)) (by omega) ?_
     rintro _ rfl
     refine ⟨⟨by omega, by rw [ed]; unfold In64; omega⟩, ?_⟩
     rw [ed]
     refine ⟨mm / 2, by omega, ci ⟨mm / 2, 2 * p, q, A, y * y, _, _, _, _, _, _, _, _, _, _, _, _, _, _, _, _, _, _, _, _, _, _, _, rfl, rfl, ?_, ?_, hA, ?_, .inr ?_, ⟨σ', hs1, hs2, hs3, hs4⟩, by omega, by omega⟩⟩
     ·rw [hh, ← hAy]; exact (pow_even _ _ _).symm
     ·rw [show g * (2 * p) = g * p + g * p by grind]; exact hy.mul hy
     ·rw [hh]; omega
     ·have := Nat.mul_le_mul_left p (show 2 <= mm by omega); omega
    ·refine ⟨⟨by omega, by rw [ed]; unfold In64; omega⟩, ?_⟩
     rw [ed]
     have e1 : mm = 1 := by omega
     refine ⟨mm / 2, by omega, ci ⟨mm / 2, p, q, A, y, _, _, _, _, _, _, _, _, _, _, _, _, _, _, _, _, _, _, _, _, _, _, _, rfl, rfl, ?_, hy, hA, ?_, .inr ?_, ⟨σ', hs1, hs2, hs3, hs4⟩, by omega, by omega⟩⟩
     ·have h0 : h = 0 := by omega
      omega
     ·have h0 : h = 0 := by omega
      rw [hh, h0]; omega
     ·omega
  ·have e : mm = 0 := by omega
   subst e
   refine endf hs1 ?_
   rw [← hAy]; simp
end Go.PI

