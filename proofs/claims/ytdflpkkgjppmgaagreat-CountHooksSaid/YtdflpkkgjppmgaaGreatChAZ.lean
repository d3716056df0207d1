/- Own work of the verifier: CiSmall CiCmp CiShrt CiSubt CiDigit CiStre CiQuot CiQuo2 CiRef1. -/
import Derived.Test.YtdflpkkgjppmgaaGreatChAY
import Derived.Test.YtdflpkkgjppmgaaGreatChAP
import Derived.Test.YtdflpkkgjppmgaaGreatChAU
set_option linter.all false
set_option exponentiation.threshold 3000
set_option linter.deprecated false
/- small, cmp.Compare, compare, short. -/
open Go.Proofs
namespace Go.PI
open IM
set_option maxRecDepth 10000
set_option maxHeartbeats 1000000
variable (S : FuncId → Option (List AV → Heap → Option (AV × Heap)))
structure Kp (H H' : Heap) (c : Nat) : Prop where
  n : H.n ≤ H'.n
  m : H'.n ≤ H.n + c
  get : ∀ A, A < H.n → H'.get A = H.get A
theorem Kp.refl (H : Heap) (c : Nat) : Kp H H c := ⟨Nat.le_refl _, by omega, fun _ _ => rfl⟩
theorem Kp.trans {H H1 H2 : Heap} {a b c : Nat} (h : Kp H H1 a) (k : Kp H1 H2 b) (hc : a + b ≤ c) : Kp H H2 c :=
  ⟨by have := h.n; have := k.n; omega, by have := h.m; have := k.m; omega, fun A hA => (k.get A (by have := h.n; omega)).trans (h.get A hA)⟩
theorem Kp.le {H H' : Heap} {a c : Nat} (h : Kp H H' a) (hc : a ≤ c) : Kp H H' c := ⟨h.n, by have := h.m; omega, h.get⟩
theorem Sl.kp {H H' : Heap} {v : AV} {xs : List Int} {c : Nat} (h : Sl H v xs) (k : Kp H H' c) : Sl H' v xs := h.mono k.get
theorem Mine.kp {H H' : Heap} {v : AV} {xs : List Int} {c : Nat} (h : Mine H H.n v xs H') (hc : H'.n ≤ H.n + c) : Kp H H' c := ⟨h.n, hc, fun A hA => h.keep A hA (by omega)⟩
theorem val_cons_drop {xs : List Int} {k : Nat} {e : Int} (h : xs[k]? = some e) : val (xs.drop k) = e + 100000000 * val (xs.drop (k + 1)) := by
  rw [drop_of_get h]; rfl
section
variable {C : Ctx} (hT : C.ty = tget)
include hT
end
theorem Sl.cells {H : Heap} {v : AV} {xs : List Int} (h : Sl H v xs) : v.cells = [v] ∧ v.one = true := by
  unfold Sl at h
  split at h <;> first | exact ⟨rfl, rfl⟩ | exact h.elim
theorem sgn_val {xs : List Int} (h : Nrm xs) : (sgnL xs = 0 ∧ xs = [] ∧ val xs = 0) ∨ (sgnL xs = 1 ∧ xs ≠ [] ∧ 0 < val xs ∧ Dig xs) ∨ (sgnL xs = -1 ∧ xs ≠ [] ∧ val xs < 0 ∧ Dig (xs.map fun x => -x)) := by
  obtain ⟨hs, ht⟩ := h
  rcases ht with rfl | ⟨ys, t, rfl, h0⟩
  · exact .inl ⟨rfl, rfl, rfl⟩
  · have hsg : sgnL (ys ++ [t]) = if t < 0 then -1 else 1 := by unfold sgnL; simp
    right
    rcases hs with hs | hs
    · left
      have hd : Dig (ys ++ [t]) := fun x hx => hs x hx
      have ht := hs t (by simp)
      have h1 := (nrm_len hd (.inr ⟨ys, t, rfl, h0⟩) (by simp)).1
      have h2 := pw_pos ((ys ++ [t]).length - 1)
      exact ⟨by rw [hsg, if_neg (by omega)], by simp, by omega, hd⟩
    · right
      have hd : Dig ((ys ++ [t]).map fun x => -x) := fun x hx => by
        obtain ⟨y, hy, rfl⟩ := List.mem_map.1 hx
        have := hs y hy; omega
      have ht := hs t (by simp)
      have h1 := (nrm_len hd (.inr ⟨ys.map fun x => -x, -t, by simp, by omega⟩) (by simp)).1
      rw [val_neg] at h1
      have h2 := pw_pos (((ys ++ [t]).map fun x => -x).length - 1)
      exact ⟨by rw [hsg, if_pos (by omega)], by simp, by omega, hd⟩
theorem cmp_dif {xs ys : List Int} (hx : Nrm xs) (hy : Nrm ys) (h : sgnL xs = sgnL ys) {k : Nat} {e e' : Int} (he : xs[k]? = some e) (he' : ys[k]? = some e') (hne : e ≠ e') (hd : xs.drop (k + 1) = ys.drop (k + 1)) : cmpI e e' = cmpI (val xs) (val ys) := by
  have hkx := (List.getElem?_eq_some_iff.1 he).1
  have hky := (List.getElem?_eq_some_iff.1 he').1
  have ex : xs = xs.take k ++ e :: xs.drop (k + 1) := by rw [← drop_of_get he, List.take_append_drop]
  have ey : ys = ys.take k ++ e' :: xs.drop (k + 1) := by rw [hd, ← drop_of_get he', List.take_append_drop]
  have key : (Dig xs ∧ Dig ys) ∨ (Dig (xs.map fun x => -x) ∧ Dig (ys.map fun x => -x)) := by
    rcases sgn_val hx with ⟨a1, rfl, a3⟩ | ⟨a1, a2, a3, a4⟩ | ⟨a1, a2, a3, a4⟩ <;> rcases sgn_val hy with ⟨b1, rfl, b3⟩ | ⟨b1, b2, b3, b4⟩ | ⟨b1, b2, b3, b4⟩ <;> rw [a1] at h <;> (try rw [b1] at h) <;> first | exact absurd h (by decide) | (simp at hkx; done) | exact .inl ⟨a4, b4⟩ | exact .inr ⟨a4, b4⟩
  conv => rhs; rw [ex, ey]
  refine (cmp_first (by simp; omega) hne ?_).symm
  rcases key with ⟨k1, k2⟩ | ⟨k1, k2⟩
  · exact .inl ⟨fun x hx => k1 x (List.mem_of_mem_take hx), fun x hx => k2 x (List.mem_of_mem_take hx)⟩
  · refine .inr ⟨fun x hx => k1 x ?_, fun x hx => k2 x ?_⟩
    · rw [List.map_take] at hx; exact List.mem_of_mem_take hx
    · rw [List.map_take] at hx; exact List.mem_of_mem_take hx
theorem Sl.same {H : Heap} {v : AV} {xs : List Int} (h : Sl H v xs) : v.same v = true := by
  unfold Sl at h
  split at h <;> first | rfl | exact h.elim | simp [AV.same, AV.sames]
end Go.PI
/- compare. -/
open Go.Proofs
namespace Go.PI
open IM
set_option maxRecDepth 10000
set_option maxHeartbeats 1000000
variable (S : FuncId → Option (List AV → Heap → Option (AV × Heap)))
end Go.PI
/- short: a list of digits divided by one element. -/
open Go.Proofs
namespace Go.PI
open IM
set_option maxRecDepth 10000
set_option maxHeartbeats 1000000
variable (S : FuncId → Option (List AV → Heap → Option (AV × Heap)))
def Cp (v : AV) : Prop :=
  match v with
  | .sl _ _ l c => l ≤ c
  | _ => True
theorem Ow.cp {H : Heap} {v : AV} {b : Nat} {zs : List Int} {l : Nat} (h : Ow H v b zs l) : Cp v := by
  obtain ⟨-, -, ⟨c, rfl, h, -⟩ | rfl⟩ := h
  · exact h
  · trivial
theorem Mine.cp {H0 H : Heap} {b0 : Nat} {v : AV} {xs : List Int} (h : Mine H0 b0 v xs H) : Cp v := by
  obtain ⟨-, -, b, zs, hO, -⟩ := h
  exact hO.cp
theorem divmod_of {v d q r : Int} (h : q * d + r = v) (hr : 0 ≤ r) (hd : r < d) : v / d = q ∧ v % d = r := by
  have e : v = r + q * d := by omega
  have hd0 : d ≠ 0 := by omega
  refine ⟨?_, ?_⟩
  · rw [e, Int.add_mul_ediv_right _ _ hd0, Int.ediv_eq_zero_of_lt hr hd]; omega
  · rw [e, Int.add_mul_emod_self_right]; exact Int.emod_eq_of_lt hr hd
def Nw (H : Heap) (v : AV) (xs : List Int) (H' : Heap) : Prop := (v = .nils ∧ xs = [] ∧ H.n ≤ H'.n) ∨ Mine H H.n v xs H'
theorem Nw.sl {H H' : Heap} {v : AV} {xs : List Int} (h : Nw H v xs H') : Sl H' v xs := by
  rcases h with ⟨rfl, rfl, -⟩ | h
  · rfl
  · exact h.sl
theorem Nw.cp {H H' : Heap} {v : AV} {xs : List Int} (h : Nw H v xs H') : Cp v := by
  rcases h with ⟨rfl, rfl, -⟩ | h
  · trivial
  · exact h.cp
end Go.PI
/- subtract, digit. -/
open Go.Proofs
namespace Go.PI
open IM
set_option maxRecDepth 10000
set_option maxHeartbeats 1000000
variable (S : FuncId → Option (List AV → Heap → Option (AV × Heap)))
def nb (v : AV) (b : Nat) : Prop :=
  match v with
  | .sl b' _ _ _ => b' ≠ b
  | .slu b' _ _ _ => b' ≠ b
  | _ => True
theorem Sl.other {H H' : Heap} {v : AV} {xs : List Int} {b : Nat} (h : Sl H v xs) (hv : nb v b) (k : ∀ A, A ≠ b → H'.get A = H.get A) : Sl H' v xs := by
  unfold Sl at *
  unfold nb at hv
  split at h <;> try exact h
  · obtain ⟨h1, rw, ty, cs, h2, h3⟩ := h
    exact ⟨h1, rw, ty, cs, by rw [k _ hv]; exact h2, h3⟩
  · obtain ⟨h0, h1, rw, ty, cs, h2, h3⟩ := h
    exact ⟨h0, h1, rw, ty, cs, by rw [k _ hv]; exact h2, h3⟩
section
variable {C : Ctx} (hT : C.ty = tget)
include hT
end
theorem val_snoc (xs : List Int) (x : Int) : val (xs ++ [x]) = val xs + pw xs.length * x := by rw [val_append]; simp [val]
end Go.PI
/- digit. -/
open Go.Proofs
namespace Go.PI
open IM
set_option maxRecDepth 10000
set_option maxHeartbeats 2000000
variable (S : FuncId → Option (List AV → Heap → Option (AV × Heap)))
theorem Sl.addr {H : Heap} {v : AV} {xs : List Int} (h : Sl H v xs) (hne : xs ≠ []) : ∃ b o, b < H.n ∧ ∀ k, addr v k = .ptr b (o + k) := by
  unfold Sl at h
  split at h
  · exact absurd h hne
  · exact absurd h hne
  · obtain ⟨h1, rw, ty, cs, h2, h3⟩ := h
    exact ⟨_, _, Heap.lt_of_get (by rw [h2]; simp), fun k => rfl⟩
  · obtain ⟨h0, h1, rw, ty, cs, h2, h3⟩ := h
    exact ⟨_, _, Heap.lt_of_get (by rw [h2]; simp), fun k => rfl⟩
  · exact h.elim
end Go.PI
/- stretched; the first guess's divisor. -/
open Go.Proofs
namespace Go.PI
open IM
set_option maxRecDepth 10000
set_option maxHeartbeats 1000000
variable (S : FuncId → Option (List AV → Heap → Option (AV × Heap)))
def mulL (f : Int) (xs : List Int) : List Int := xs.map fun x => f * x
theorem mulL_snoc (f : Int) (xs : List Int) (x : Int) : mulL f (xs ++ [x]) = mulL f xs ++ [f * x] := by simp [mulL]
theorem mulL_val (f : Int) (xs : List Int) : val (mulL f xs) = f * val xs := by
  induction xs with
  | nil => simp [mulL, val]
  | cons x xs ih =>
    simp only [mulL, List.map_cons, val] at *
    rw [ih]; grind
end Go.PI
/- quotient. -/
open Go.Proofs
namespace Go.PI
open IM
set_option maxRecDepth 10000
set_option maxHeartbeats 4000000
variable (S : FuncId → Option (List AV → Heap → Option (AV × Heap)))
structure OldI (S : FuncId → Option (List AV → Heap → Option (AV × Heap))) : Prop where
  o : Old S
  h78 : S 78 = none
  h153 : S 153 = none
  h188 : S 188 = none
  h192 : S 192 = none
  h164 : S 164 = none
  h152 : S 152 = none
  h154 : S 154 = none
  h165 : S 165 = none
  h166 : S 166 = none
  h193 : S 193 = none
  h182 : S 182 = none
  h203 : S 203 = none
  h204 : S 204 = none
  h187 : S 187 = none
  h189 : S 189 = none
  h190 : S 190 = none
  h191 : S 191 = none
  h201 : S 201 = none
  h210 : S 210 = none
  h205 : S 205 = none
  h206 : S 206 = none
  h207 : S 207 = none
  h208 : S 208 = none
  h211 : S 211 = none
theorem Mine.toSl {H H' : Heap} {v : AV} {xs : List Int} (h : Mine H H.n v xs H') : Sl H' v xs := h.sl
theorem expand (T : List AV) : T = (List.range T.length).map fun i => T.getD i undefA := by
  apply List.ext_getElem
  · simp
  · intro i h1 h2
    simp [List.getD_eq_getElem?_getD, List.getElem?_eq_getElem h1]
end Go.PI
/- quotient, all cases; divide. -/
open Go.Proofs
namespace Go.PI
open IM
set_option maxRecDepth 10000
set_option maxHeartbeats 4000000
variable (S : FuncId → Option (List AV → Heap → Option (AV × Heap)))
theorem lt_len {xs ys : List Int} (dx : Dig xs) (dy : Dig ys) (ty : Top ys) (hl : xs.length < ys.length) : val xs < val ys := by
  have h1 := dx.val.2
  have h2 := (nrm_len dy ty (by intro h; subst h; simp at hl)).1
  have h3 := pw_mono (show xs.length ≤ ys.length - 1 by omega)
  omega
theorem IM.Nrm.sml' {xs : List Int} (h : Nrm xs) : Sml xs := fun x hx => by
  rcases h.1 with h1 | h1 <;> have := h1 x hx <;> omega
theorem abs_digits {xs : List Int} (h : Nrm xs) : (sgnL xs < 0 → negL xs = digits ((val xs).natAbs : Int)) ∧ (¬ sgnL xs < 0 → xs = digits ((val xs).natAbs : Int)) := by
  have e := digits_val h
  rcases sgn_val h with ⟨a1, a2, a3⟩ | ⟨a1, a2, a3, -⟩ | ⟨a1, a2, a3, -⟩
  · refine ⟨fun h => by omega, fun _ => ?_⟩
    rw [a3, a2]; rfl
  · refine ⟨fun h => by omega, fun _ => ?_⟩
    conv => lhs; rw [← e]
    congr 1; omega
  · refine ⟨fun _ => ?_, fun h => by omega⟩
    unfold negL
    rw [← e, negd, e]
    congr 1; omega
theorem abs_len {xs : List Int} (h : Nrm xs) : (digits ((val xs).natAbs : Int)).length = xs.length := by
  obtain ⟨h1, h2⟩ := abs_digits h
  by_cases hs : sgnL xs < 0
  · rw [← h1 hs]; simp [negL]
  · rw [← h2 hs]
theorem digits_len_le {v w : Int} (hv : 0 ≤ v) (h : v ≤ w) : (digits v).length ≤ (digits w).length := by
  rcases Nat.lt_or_ge (digits w).length (digits v).length with hl | hl
  · exfalso
    have dv : Dig (digits v) := nrm_pos (nrm_digits v) (by rw [val_digits]; exact hv)
    have dw : Dig (digits w) := nrm_pos (nrm_digits w) (by rw [val_digits]; omega)
    have := lt_len dw dv (nrm_digits v).2 hl
    rw [val_digits, val_digits] at this
    omega
  · exact hl
theorem div_signs {X Y : Int} (hY : Y ≠ 0) : (0 ≤ X → X % Y = (X.natAbs : Int) % (Y.natAbs : Int)) ∧
    (X < 0 → (X.natAbs : Int) % (Y.natAbs : Int) = 0 → X % Y = 0) ∧
    (X < 0 → (X.natAbs : Int) % (Y.natAbs : Int) ≠ 0 → X % Y = (Y.natAbs : Int) - (X.natAbs : Int) % (Y.natAbs : Int)) ∧
    (0 ≤ X → 0 < Y → X / Y = (X.natAbs : Int) / (Y.natAbs : Int)) ∧ (0 ≤ X → Y < 0 → X / Y = - ((X.natAbs : Int) / (Y.natAbs : Int))) ∧
    (X < 0 → 0 < Y → (X.natAbs : Int) % (Y.natAbs : Int) = 0 → X / Y = - ((X.natAbs : Int) / (Y.natAbs : Int))) ∧ (X < 0 → Y < 0 → (X.natAbs : Int) % (Y.natAbs : Int) = 0 → X / Y = (X.natAbs : Int) / (Y.natAbs : Int)) ∧
    (X < 0 → 0 < Y → (X.natAbs : Int) % (Y.natAbs : Int) ≠ 0 → X / Y = - ((X.natAbs : Int) / (Y.natAbs : Int) + 1)) ∧ (X < 0 → Y < 0 → (X.natAbs : Int) % (Y.natAbs : Int) ≠ 0 → X / Y = (X.natAbs : Int) / (Y.natAbs : Int) + 1) := by
  obtain ⟨a, ha⟩ : ∃ a : Int, (X.natAbs : Int) = a := ⟨_, rfl⟩
  obtain ⟨b, hb⟩ : ∃ b : Int, (Y.natAbs : Int) = b := ⟨_, rfl⟩
  rw [ha, hb]
  have hb0 : 0 < b := by omega
  have e1 := Int.mul_ediv_add_emod a b
  have e2 := Int.emod_nonneg a (show b ≠ 0 by omega)
  have e3 := Int.emod_lt_of_pos a hb0
  have yc : Y = b ∨ Y = -b := by omega
  have xc : (X = a ∧ 0 ≤ X) ∨ (X = -a ∧ X < 0) := by omega
  have n1 : X < 0 → a % b = 0 → X / b = -(a / b) ∧ X % b = 0 := fun h h0 => divmod_of (by rw [Int.neg_mul, Int.mul_comm]; omega) (by omega) hb0
  have n2 : X < 0 → a % b ≠ 0 → X / b = -(a / b + 1) ∧ X % b = b - a % b := fun h h0 => divmod_of (by rw [Int.neg_mul, Int.add_mul, Int.mul_comm]; omega) (by omega) (by omega)
  rcases yc with rfl | rfl
  · rcases xc with ⟨rfl, h⟩ | ⟨h', h⟩
    · refine ⟨fun _ => rfl, fun h => by omega, fun h => by omega, fun _ _ => rfl, fun _ h => by omega, fun h => by omega, fun h => by omega, fun h => by omega, fun h => by omega⟩
    · exact ⟨fun h => by omega, fun _ h0 => (n1 h h0).2, fun _ h0 => (n2 h h0).2, fun h => by omega, fun h => by omega, fun _ _ h0 => (n1 h h0).1, fun _ h => by omega, fun _ _ h0 => (n2 h h0).1, fun _ h => by omega⟩
  · rw [Int.emod_neg, Int.ediv_neg]
    rcases xc with ⟨rfl, h⟩ | ⟨h', h⟩
    · refine ⟨fun _ => rfl, fun h => by omega, fun h => by omega, fun _ h => by omega, fun _ _ => rfl, fun h => by omega, fun h => by omega, fun h => by omega, fun h => by omega⟩
    · exact ⟨fun h => by omega, fun _ h0 => (n1 h h0).2, fun _ h0 => (n2 h h0).2, fun h => by omega, fun h => by omega, fun _ h => by omega, fun _ _ h0 => by rw [(n1 h h0).1]; omega, fun _ h => by omega, fun _ _ h0 => by rw [(n2 h h0).1]; omega⟩
theorem dig_digits {v : Int} (h : 0 ≤ v) : Dig (digits v) := nrm_pos (nrm_digits v) (by rw [val_digits]; exact h)
theorem len_of {v : Int} {k : Nat} (h : -pw k < v ∧ v < pw k) : (digits v).length ≤ k := by
  have key : ∀ w : Int, 0 ≤ w → w < pw k → (digits w).length ≤ k := fun w h0 h1 => by
    rcases Nat.lt_or_ge k (digits w).length with hl | hl
    · exfalso
      have := (nrm_len (dig_digits h0) (nrm_digits w).2 (by intro h; rw [h] at hl; simp at hl)).1
      rw [val_digits] at this
      have := pw_mono (show k ≤ (digits w).length - 1 by omega)
      omega
    · exact hl
  rcases ilt_or v 0 with h0 | h0
  · have := abs_len (nrm_digits v)
    rw [val_digits] at this
    rw [← this]
    exact key _ (by omega) (by omega)
  · exact key v h0 h.2
end Go.PI
/- The reference of the integers: split, trim, signed, Negative, size. -/
open Go.Proofs
namespace Go.PI
open IM
theorem fn124 : ctx.fn 124 = some c124 := by kernel_rfl
theorem fn125 : ctx.fn 125 = some c125 := by kernel_rfl
theorem fn126 : ctx.fn 126 = some c126 := by kernel_rfl
theorem fn142 : ctx.fn 142 = some c142 := by kernel_rfl
theorem fn143 : ctx.fn 143 = some c143 := by kernel_rfl
set_option maxRecDepth 10000
set_option maxHeartbeats 4000000
variable (S : FuncId → Option (List AV → Heap → Option (AV × Heap)))
theorem split_run (h124 : S 124 = none) {H : Heap} {e : Int} (he : In64 e) : Cl (ctx.plus S) 124 [iv e] H fun r H' => r = .tup [iv (e / 100000000), iv (e % 100000000)] ∧ H = H' := by
  refine cl_of h124 fn124 ?_
  unfold In64 at he
  have t := tq e
  refine ⟨⟨by decide, by omega, by omega⟩, ?_⟩
  refine ⟨by decide, ?_⟩
  refine ⟨fun hn => ?_, fun hn => ?_⟩
  · refine ⟨⟨by omega, by omega⟩, ?_⟩
    refine ⟨⟨by omega, by omega⟩, ?_⟩
    have e1 : e.tdiv 100000000 - 1 = e / 100000000 := by omega
    have e2 : e.tmod 100000000 + 100000000 = e % 100000000 := by omega
    have hfin : AV.tup [iv (e.tdiv 100000000 - 1), iv (e.tmod 100000000 + 100000000)] = .tup [iv (e / 100000000), iv (e % 100000000)] ∧ H = H := by rw [e1, e2]; exact ⟨rfl, rfl⟩
    exact hfin
  · have e1 : e.tdiv 100000000 = e / 100000000 := by omega
    have e2 : e.tmod 100000000 = e % 100000000 := by omega
    have hfin : AV.tup [iv (e.tdiv 100000000), iv (e.tmod 100000000)] = .tup [iv (e / 100000000), iv (e % 100000000)] ∧ H = H := by rw [e1, e2]; exact ⟨rfl, rfl⟩
    exact hfin
structure RV (H : Heap) (v : AV) (xs : List Int) : Prop where
  sl : Sl H v xs
  cp : Cp v
  ns : v ≠ .sle
theorem RV.kp {H H' : Heap} {v : AV} {xs : List Int} {c : Nat} (h : RV H v xs) (k : Kp H H' c) : RV H' v xs := ⟨h.sl.kp k, h.cp, h.ns⟩
theorem Ow.rv {H : Heap} {v : AV} {b : Nat} {zs : List Int} {l : Nat} (h : Ow H v b zs l) : RV H v (zs.take l) := by
  refine ⟨h.sl, h.cp, ?_⟩
  obtain ⟨-, -, ⟨c, rfl, -, -⟩ | rfl⟩ := h <;> simp
theorem Mine.rv {H0 H : Heap} {b0 : Nat} {v : AV} {xs : List Int} (h : Mine H0 b0 v xs H) : RV H v xs := by
  obtain ⟨-, -, b, zs, hO, hx, -⟩ := h
  have := hO.rv
  rwa [hx] at this
theorem rv_nil (H : Heap) : RV H .nils [] := ⟨rfl, trivial, by simp⟩
theorem slice_to {C : Ctx} (hT : C.ty = tget) {ρ : Operand → Option AV} {x y : Operand} {H : Heap} {v : AV} {xs : List Int} {k : Nat} (hx : ρ x = some v) (hy : ρ y = some (iv k)) (h : RV H v xs) (hk : k ≤ xs.length) :
    ∃ r, pureE C ρ (.slice 22 x none (some y) none) = some r ∧ Sl H r (xs.take k) := by
  obtain ⟨h, hc, hs⟩ := h
  have key : ∀ {b o l : Nat}, l = xs.length → (∃ rw ty cs, H.get b = .cells rw ty cs ∧ o + l ≤ cs.length ∧ (cs.drop o).take l = ints xs) → ∃ rw ty cs, H.get b = .cells rw ty cs ∧ o + k ≤ cs.length ∧ (cs.drop o).take k = ints (xs.take k) := by
    rintro b o l rfl ⟨rw, ty, cs, h1, h2, h3⟩
    refine ⟨rw, ty, cs, h1, by omega, ?_⟩
    rw [← ints_take, ← h3, List.take_take, Nat.min_eq_left hk]
  unfold Sl at h
  split at h
  · subst h
    simp at hk
    subst hk
    refine ⟨.nils, ?_, rfl⟩
    simp only [pureE, hx, hy, ty22 hT, t22, ty3 hT, bound]
    simp
  · exact absurd rfl hs
  · rename_i b o l c
    obtain ⟨rfl, h2⟩ := h
    have hc : xs.length ≤ c := hc
    have hkk : (0 : Int) ≤ (k : Int) ∧ (k : Int) ≤ (c : Int) := by omega
    refine ⟨.sl b o k c, ?_, by simp; omega, key rfl h2⟩
    simp only [pureE, hx, hy, ty22 hT, t22, ty3 hT, bound, hkk, and_self, if_true, Int.toNat_natCast]
    simp [t3]
  · rename_i b o l e
    obtain ⟨rfl, rfl, h2⟩ := h
    have hkk : (0 : Int) ≤ (k : Int) ∧ (k : Int) ≤ (xs.length : Int) := by omega
    refine ⟨.slu b o k 1, ?_, rfl, by simp; omega, key rfl h2⟩
    simp only [pureE, hx, hy, ty22 hT, t22, ty3 hT, bound, hkk, and_self, if_true, Int.toNat_natCast]
    by_cases hl : 0 < xs.length
    · simp [t3, hl]
    · simp [t3, hl]
  · exact h.elim
theorem rtrim_run (h125 : S 125 = none) {H : Heap} {x : AV} {xs : List Int} (hn : H.n + 8 < lim) (hx : RV H x xs) (hl : xs.length ≤ 1000000) :
    Cl (ctx.plus S) 125 [x] H fun r H' => Mine H H.n r (trimL xs) H' ∧ H'.n ≤ H.n + 2 := by
  refine cl_of h125 fn125 ?_
  have hT : (ctx.plus S).ty = tget := rfl
  refine ⟨_, len_sl hT (v := x) rfl hx.sl, ?_⟩
  refine ⟨fun m s => ∃ (i : Nat) (n : Int) (j1 j2 j4 j5 j6 j7 j8 j9 j10 j11 j12 j13 j14 j15 j16 j17 j18 j19 j20 j21 j22 : AV),
    s = ⟨[x, j1, j2, iv n, j4, j5, j6, j7, j8, j9, j10, j11, j12, j13, j14, j15, j16, j17, j18, j19, j20, j21, j22], H, []⟩ ∧ m = i ∧ n = i ∧ i ≤ xs.length ∧ (∀ j, i ≤ j → j < xs.length → xs[j]? = some 0), ⟨xs.length, ?_⟩, ?_⟩
  · exact ⟨xs.length, _, _, _, _, _, _, _, _, _, _, _, _, _, _, _, _, _, _, _, _, _, _, rfl, rfl, rfl, Nat.le_refl _, fun j h1 h2 => by omega⟩
  · rintro m s ⟨i, n, j1, j2, j4, j5, j6, j7, j8, j9, j10, j11, j12, j13, j14, j15, j16, j17, j18, j19, j20, j21, j22, rfl, hm, rfl, hi, hz⟩
    have fin : (i = 0 ∨ ∃ x, xs[i - 1]? = some x ∧ x ≠ 0) → ∃ v, pureE (ctx.plus S) (fun o => match o with | .tmp 19 => some x | _ => some (iv i)) (.slice 22 (.tmp 19) none (some (.tmp 20)) none) = some v ∧ Sl H v (trimL xs) := fun ht => by
      obtain ⟨r, hr, hs⟩ := slice_to hT (C := ctx.plus S) (ρ := fun o => match o with | .tmp 19 => some x | _ => some (iv i)) (x := .tmp 19) (y := .tmp 20) (k := i) rfl rfl hx hi
      rw [trim_is hi hz ht]
      exact ⟨r, hr, hs⟩
    have app : ∀ v, Sl H v (trimL xs) → ∃ r H', appendE (ctx.plus S) [22, 22] (.sl H.n 0 0 0) v (H.push (.cells true 3 [])) = some (r, H') ∧ Mine H H.n r (trimL xs) H' ∧ H'.n ≤ H.n + 2 := fun v hv =>
      append_empty hT (by omega) hv (by have := (trim_take xs).2.2; omega)
    refine ⟨fun hpos => ?_, fun hz0 => ?_⟩
    · obtain ⟨e, he⟩ : ∃ e, xs[i - 1]? = some e := ⟨xs[i - 1]'(by omega), List.getElem?_eq_getElem _⟩
      refine ⟨⟨by omega, by omega⟩, ?_⟩
      refine ⟨_, idx_sl hT (v := x) (n := (i : Int) - 1) (k := i - 1) rfl rfl hx.sl (by omega) (by omega), ?_⟩
      refine ⟨_, load_sl hT hx.sl he, ?_⟩
      refine ⟨fun h0 => ?_, fun h0 => ?_⟩
      · subst h0
        refine ⟨⟨by omega, by omega⟩, ?_⟩
        refine ⟨i - 1, by omega, i - 1, _, _, _, _, _, _, _, _, _, _, _, _, _, _, _, _, _, _, _, _, _, _, rfl, rfl, by omega, by omega, fun j h1 h2 => ?_⟩
        by_cases hj : j = i - 1
        · rw [hj]; exact he
        · exact hz j (by omega) h2
      · obtain ⟨v, hv, hs⟩ := fin (.inr ⟨e, he, h0⟩)
        obtain ⟨r, H', hr, hM, hn'⟩ := app v hs
        refine ⟨by omega, _, _, rfl, ?_⟩
        refine ⟨v, hv, ?_⟩
        exact ⟨r, H', hr, hM, hn'⟩
    · have hi0 : i = 0 := by omega
      obtain ⟨v, hv, hs⟩ := fin (.inl hi0)
      obtain ⟨r, H', hr, hM, hn'⟩ := app v hs
      refine ⟨by omega, _, _, rfl, ?_⟩
      refine ⟨v, hv, ?_⟩
      exact ⟨r, H', hr, hM, hn'⟩
theorem rnegative_run (h143 : S 143 = none) {H : Heap} {x : AV} {xs : List Int} (hx : Sl H x xs) (hl : xs.length ≤ 1000000) (nx : Nrm xs) : Cl (ctx.plus S) 143 [x] H fun r H' => r = .bool (decide (val xs < 0)) ∧ H = H' := by
  refine cl_of h143 fn143 ?_
  have hT : (ctx.plus S).ty = tget := rfl
  refine ⟨_, len_sl hT (v := x) rfl hx, ?_⟩
  refine ⟨fun hp => ?_, fun hp => ?_⟩
  · refine ⟨_, len_sl hT (v := x) rfl hx, ?_⟩
    refine ⟨⟨by omega, by omega⟩, ?_⟩
    obtain ⟨e, he⟩ : ∃ e, xs[xs.length - 1]? = some e := ⟨xs[xs.length - 1]'(by omega), List.getElem?_eq_getElem _⟩
    refine ⟨_, idx_sl hT (v := x) (n := (xs.length : Int) - 1) (k := xs.length - 1) rfl rfl hx (by omega) (by omega), ?_⟩
    refine ⟨_, load_sl hT hx he, ?_⟩
    have hs : sgnL xs = if e < 0 then -1 else 1 := by
      unfold sgnL
      rw [List.getLast?_eq_getElem?, he]
    refine ⟨fun hn => ?_, fun hn => ?_⟩
    · rw [if_pos hn] at hs
      have : val xs < 0 := by rcases sgn_val nx with ⟨a, -, b⟩ | ⟨a, -, b, -⟩ | ⟨a, -, b, -⟩ <;> omega
      have hfin : AV.bool true = .bool (decide (val xs < 0)) ∧ H = H := by rw [decide_eq_true this]; exact ⟨rfl, rfl⟩
      exact hfin
    · rw [if_neg (by omega)] at hs
      have : ¬ val xs < 0 := by rcases sgn_val nx with ⟨a, -, b⟩ | ⟨a, -, b, -⟩ | ⟨a, -, b, -⟩ <;> omega
      have hfin : AV.bool false = .bool (decide (val xs < 0)) ∧ H = H := by rw [decide_eq_false this]; exact ⟨rfl, rfl⟩
      exact hfin
  · have h0 : xs = [] := List.eq_nil_of_length_eq_zero (by omega)
    subst h0
    exact ⟨rfl, rfl⟩
theorem signed_run (h126 : S 126 = none) (h125 : S 125 = none) {H : Heap} {x : AV} {xs : List Int} {β : Bool} (hn : H.n + 8 < lim) (hx : RV H x xs) (hl : xs.length ≤ 1000000) (hr : ∀ e ∈ xs, In64 (0 - e)) :
    Cl (ctx.plus S) 126 [x, .bool β] H fun r H' => Mine H H.n r (if β = true then negL (trimL xs) else trimL xs) H' ∧ H'.n ≤ H.n + 2 := by
  refine cl_of h126 fn126 ?_
  have hT : (ctx.plus S).ty = tget := rfl
  refine (rtrim_run S h125 hn hx hl).mono ?_
  rintro t H1 ⟨hM, hn1⟩
  have hl1 := (trim_take xs).2.2
  obtain ⟨us, hus⟩ : ∃ us, trimL xs = us := ⟨_, rfl⟩
  have hru : ∀ e ∈ us, In64 (0 - e) := fun e he => hr e (trim_mem xs e (by rw [hus]; exact he))
  rw [hus] at hM hl1 ⊢
  refine ⟨fun m s => ∃ (i : Nat) (n : Int) (H' : Heap) (j2 j3 j4 j7 j8 j9 j10 j11 j12 j13 j14 j15 j16 j17 j18 j19 j20 j21 j22 j23 j24 j25 j26 : AV),
    s = ⟨[x, .bool β, j2, j3, j4, t, iv n, j7, j8, j9, j10, j11, j12, j13, j14, j15, j16, j17, j18, j19, j20, j21, j22, j23, j24, j25, j26], H', []⟩ ∧ m = us.length - i ∧ n = i ∧ i ≤ us.length ∧ (β = false → i = 0) ∧ Mine H H.n t (negL (us.take i) ++ us.drop i) H' ∧ H'.n ≤ H.n + 2, ⟨us.length, ?_⟩, ?_⟩
  · exact ⟨0, _, H1, _, _, _, _, _, _, _, _, _, _, _, _, _, _, _, _, _, _, _, _, _, _, _, rfl, rfl, rfl, Nat.zero_le _, fun _ => rfl, by simpa [negL] using hM, hn1⟩
  · rintro m s ⟨i, n, H', j2, j3, j4, j7, j8, j9, j10, j11, j12, j13, j14, j15, j16, j17, j18, j19, j20, j21, j22, j23, j24, j25, j26, rfl, hm, rfl, hi, hb, hM', hn'⟩
    have hZl : (negL (us.take i) ++ us.drop i).length = us.length := by simp [negL]; omega
    refine ⟨_, len_sl hT (v := t) rfl hM'.sl, ?_⟩
    rw [hZl]
    refine ⟨fun hlt => ?_, fun hge => ?_⟩
    · cases β with
      | false =>
        have hi0 := hb rfl
        subst hi0
        have hfin : Mine H H.n t (if false = true then negL us else us) H' ∧ H'.n ≤ H.n + 2 := ⟨by rw [if_neg (by simp)]; simpa [negL] using hM', hn'⟩
        exact hfin
      | true =>
        obtain ⟨e, he⟩ : ∃ e, us[i]? = some e := ⟨us[i]'(by omega), List.getElem?_eq_getElem _⟩
        have hl2 : (negL (us.take i)).length = i := by simp [negL]; omega
        have hg : (negL (us.take i) ++ us.drop i)[i]? = some e := by
          rw [List.getElem?_append_right (by omega), hl2]; simpa using he
        obtain ⟨-, -, b, zs, hO, hzs, hb0⟩ := id hM'
        refine ⟨_, idx_sl hT (v := t) (n := (i : Int)) (k := i) rfl rfl hM'.sl rfl (by omega), ?_⟩
        refine ⟨_, load_sl hT hM'.sl hg, ?_⟩
        refine ⟨hru e (List.mem_of_getElem? he), ?_⟩
        refine ⟨_, idx_sl hT (v := t) (n := (i : Int)) (k := i) rfl rfl hM'.sl rfl (by omega), ?_⟩
        refine ⟨_, store_ow hT hO (by omega), ?_⟩
        refine ⟨⟨by omega, by omega⟩, ?_⟩
        have hset : (negL (us.take i) ++ us.drop i).set i (0 - e) = negL (us.take (i + 1)) ++ us.drop (i + 1) := by
          rw [take_snoc he, negL_snoc, drop_of_get he, List.set_append_right _ _ (by omega), hl2, Nat.sub_self]
          simp
        have hU := upd_set (H := H') (b := b) (x := .cells true 3 (ints (zs.set i (0 - e)))) hO.lt (by omega)
        refine ⟨us.length - (i + 1), by omega, i + 1, _, _, _, _, _, _, _, _, _, _, _, _, _, _, _, _, _, _, _, _, _, _, _, _, _, rfl, rfl, rfl, by omega, fun h => by simp at h, ?_, by have := hU.n; omega⟩
        rw [← hset]
        have hzl := hO.2.1
        have e2 : zs.set i (0 - e) = (negL (us.take i) ++ us.drop i).set i (0 - e) ++ zs.drop (negL (us.take i) ++ us.drop i).length := by
          conv => lhs; rw [← List.take_append_drop (negL (us.take i) ++ us.drop i).length zs]
          rw [List.set_append_left _ _ (by simp; omega), hzs]
        rw [e2] at hU
        have hM3 := hM'.upd hO hb0 (ys := (negL (us.take i) ++ us.drop i).set i (0 - e)) (by simp) hU
        rw [← e2] at hM3
        exact hM3
    · have hi2 : i = us.length := by omega
      subst hi2
      have hM2 : Mine H H.n t (negL us) H' := by simpa using hM'
      have hfin : Mine H H.n t (if β = true then negL us else us) H' ∧ H'.n ≤ H.n + 2 := by
        cases β with
        | true => exact ⟨hM2, hn'⟩
        | false =>
          have h0 := hb rfl
          have : us = [] := List.eq_nil_of_length_eq_zero h0
          subst this
          exact ⟨hM2, hn'⟩
      exact hfin
end Go.PI
