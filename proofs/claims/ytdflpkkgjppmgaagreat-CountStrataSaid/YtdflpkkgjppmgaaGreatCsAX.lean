/- Own work of the verifier: CiInts CiRng CiCarry CiTrim CiSettle CiNormal CiFresh CiPlus CiProd CiSmall CiCmp CiShrt CiSubt CiDigit CiStre CiQuot CiQuo2 CiRef1 CiRef2 CiRef3 CiRef4 CiRef5 CiRefB CvInt CvRatQ CvRtr CvRsz CvQuot CiMix CiEucl CiGcdL CvGcd CvRdiv CvDivi CoOld CoF CoG. -/
import Derived.Test.YtdflpkkgjppmgaaGreatCsAO
import Derived.Test.YtdflpkkgjppmgaaGreatCsAW
import Derived.Test.YtdflpkkgjppmgaaGreatCsAT
import Derived.Test.YtdflpkkgjppmgaaGreatCsAS
import Derived.Test.YtdflpkkgjppmgaaGreatCsAV
set_option linter.all false
set_option exponentiation.threshold 3000
set_option linter.deprecated false
/- SLICES OF INTEGERS IN THE HEAP OF OUR OWN: what knows the types. -/
open Go.Proofs
namespace Go.PI
open IM
section
variable {C : Ctx} (hT : C.ty = tget)
include hT
theorem ty3 : C.ty 3 = some t3 := by rw [hT]; rfl
theorem ty22 : C.ty 22 = some t22 := by rw [hT]; rfl
end
def Ow (H : Heap) (v : AV) (b : Nat) (zs : List Int) (l : Nat) : Prop :=
  H.get b = .cells true 3 (ints zs) ∧ l ≤ zs.length ∧ ((∃ c, v = .sl b 0 l c ∧ l ≤ c ∧ c ≤ zs.length) ∨ v = .slu b 0 l 1)
theorem Ow.sl {H : Heap} {v : AV} {b : Nat} {zs : List Int} {l : Nat} (h : Ow H v b zs l) : Sl H v (zs.take l) := by
  obtain ⟨h1, h2, ⟨c, rfl, h3, h4⟩ | rfl⟩ := h
  · exact ⟨by simp; omega, true, _, _, h1, by rw [ints_length]; omega, by rw [List.drop_zero, ints_take]⟩
  · exact ⟨rfl, by simp; omega, true, _, _, h1, by rw [ints_length]; omega, by rw [List.drop_zero, ints_take]⟩
theorem Ow.lt {H : Heap} {v : AV} {b : Nat} {zs : List Int} {l : Nat} (h : Ow H v b zs l) : b < H.n := Heap.lt_of_get (by rw [h.1]; simp)
theorem Ow.keep {H H' : Heap} {v : AV} {b : Nat} {zs zs' : List Int} {l : Nat} (h : Ow H v b zs l) (hb : H'.get b = .cells true 3 (ints zs')) (hl : zs'.length = zs.length) : Ow H' v b zs' l := by
  obtain ⟨h1, h2, ⟨c, rfl, h3, h4⟩ | rfl⟩ := h
  · exact ⟨hb, by omega, .inl ⟨c, rfl, h3, by omega⟩⟩
  · exact ⟨hb, by omega, .inr rfl⟩
end Go.PI
/- LOOPS OVER FUNCTIONS, BY OBLIGATIONS; OPEN REGIONS WITH SEVERAL STORES AT THE END. -/
open Go.Proofs
namespace Go.PI
open IM
set_option maxRecDepth 10000
set_option maxHeartbeats 1000000
variable (S : FuncId → Option (List AV → Heap → Option (AV × Heap)))
end Go.PI
open Go.Proofs
namespace Go.PI
open IM
set_option maxRecDepth 10000
set_option maxHeartbeats 1000000
end Go.PI
open Go.Proofs
namespace Go.PI
open IM
theorem Ow.cut {H : Heap} {v : AV} {b : Nat} {zs : List Int} {l : Nat} (h : Ow H v b zs l) {C : Ctx} (hT : C.ty = tget) {ρ : Operand → Option AV} {x y : Operand} {k : Nat} (hx : ρ x = some v) (hy : ρ y = some (iv k)) (hk : k ≤ l) :
    ∃ r, pureE C ρ (.slice 22 x none (some y) none) = some r ∧ Ow H r b zs k := by
  obtain ⟨h1, h2, ⟨c, rfl, h3, h4⟩ | rfl⟩ := h
  · refine ⟨.sl b 0 k c, ?_, h1, by omega, .inl ⟨c, rfl, by omega, h4⟩⟩
    have : (0 : Int) ≤ (k : Int) ∧ (k : Int) ≤ (c : Int) := by omega
    simp only [pureE, hx, hy, ty22 hT, t22, ty3 hT, bound, this]
    simp [t3]
  · have : (0 : Int) ≤ (k : Int) ∧ (k : Int) ≤ (l : Int) := by omega
    refine ⟨.slu b 0 k 1, ?_, h1, by omega, .inr rfl⟩
    simp only [pureE, hx, hy, ty22 hT, t22, ty3 hT, bound, this]
    by_cases hl : 0 < l
    · simp [t3, hl]
    · simp [t3, hl]
set_option maxRecDepth 10000
set_option maxHeartbeats 1000000
variable (S : FuncId → Option (List AV → Heap → Option (AV × Heap)))
def sgnL (xs : List Int) : Int :=
  match xs.getLast? with
  | some t => if t < 0 then -1 else 1
  | none => 0
end Go.PI
open Go.Proofs
namespace Go.PI
open IM
def Sml (xs : List Int) : Prop := ∀ x ∈ xs, -100000000 < x ∧ x < 100000000
set_option maxRecDepth 10000
set_option maxHeartbeats 1000000
variable (S : FuncId → Option (List AV → Heap → Option (AV × Heap)))
structure Mine (H0 : Heap) (b0 : Nat) (v : AV) (xs : List Int) (H : Heap) : Prop where
  n : H0.n ≤ H.n
  keep : ∀ A, A < H0.n → A ≠ b0 → H.get A = H0.get A
  at_ : ∃ b zs, Ow H v b zs xs.length ∧ zs.take xs.length = xs ∧ (b = b0 ∨ H0.n ≤ b)
theorem Mine.sl {H0 H : Heap} {b0 : Nat} {v : AV} {xs : List Int} (h : Mine H0 b0 v xs H) : Sl H v xs := by
  obtain ⟨-, -, b, zs, hO, hx, -⟩ := h
  have := hO.sl
  rwa [hx] at this
end Go.PI
open Go.Proofs
namespace Go.PI
open IM
set_option maxRecDepth 10000
set_option maxHeartbeats 1000000
variable (S : FuncId → Option (List AV → Heap → Option (AV × Heap)))
end Go.PI
/- NEW LISTS AS RESULTS. -/
open Go.Proofs
namespace Go.PI
open IM
end Go.PI
open Go.Proofs
namespace Go.PI
open IM
set_option maxRecDepth 10000
set_option maxHeartbeats 1000000
variable (S : FuncId → Option (List AV → Heap → Option (AV × Heap)))
structure Old (S : FuncId → Option (List AV → Heap → Option (AV × Heap))) : Prop where
  h119 : S 119 = none
  h155 : S 155 = none
  h156 : S 156 = none
  h157 : S 157 = none
  h183 : S 183 = none
end Go.PI
open Go.Proofs
namespace Go.PI
open IM
set_option maxRecDepth 10000
set_option maxHeartbeats 1000000
variable (S : FuncId → Option (List AV → Heap → Option (AV × Heap)))
def negL (xs : List Int) : List Int := xs.map fun x => -x
end Go.PI
/- small, cmp.Compare, compare, short. -/
open Go.Proofs
namespace Go.PI
open IM
set_option maxRecDepth 10000
set_option maxHeartbeats 1000000
variable (S : FuncId → Option (List AV → Heap → Option (AV × Heap)))
structure Kp (H H' : Heap) (c : Nat) : Prop where
  n : H.n ≤ H'.n
  m : H'.n ≤ H.n + c
  get : ∀ A, A < H.n → H'.get A = H.get A
theorem Kp.refl (H : Heap) (c : Nat) : Kp H H c := ⟨Nat.le_refl _, by omega, fun _ _ => rfl⟩
theorem Kp.trans {H H1 H2 : Heap} {a b c : Nat} (h : Kp H H1 a) (k : Kp H1 H2 b) (hc : a + b ≤ c) : Kp H H2 c :=
  ⟨by have := h.n; have := k.n; omega, by have := h.m; have := k.m; omega, fun A hA => (k.get A (by have := h.n; omega)).trans (h.get A hA)⟩
theorem Kp.le {H H' : Heap} {a c : Nat} (h : Kp H H' a) (hc : a ≤ c) : Kp H H' c := ⟨h.n, by have := h.m; omega, h.get⟩
section
variable {C : Ctx} (hT : C.ty = tget)
include hT
end
theorem Sl.cells {H : Heap} {v : AV} {xs : List Int} (h : Sl H v xs) : v.cells = [v] ∧ v.one = true := by
  unfold Sl at h
  split at h <;> first | exact ⟨rfl, rfl⟩ | exact h.elim
theorem sgn_val {xs : List Int} (h : Nrm xs) : (sgnL xs = 0 ∧ xs = [] ∧ val xs = 0) ∨ (sgnL xs = 1 ∧ xs ≠ [] ∧ 0 < val xs ∧ Dig xs) ∨ (sgnL xs = -1 ∧ xs ≠ [] ∧ val xs < 0 ∧ Dig (xs.map fun x => -x)) := by
  obtain ⟨hs, ht⟩ := h
  rcases ht with rfl | ⟨ys, t, rfl, h0⟩
  · exact .inl ⟨rfl, rfl, rfl⟩
  · have hsg : sgnL (ys ++ [t]) = if t < 0 then -1 else 1 := by unfold sgnL; simp
    right
    rcases hs with hs | hs
    · left
      have hd : Dig (ys ++ [t]) := fun x hx => hs x hx
      have ht := hs t (by simp)
      have h1 := (nrm_len hd (.inr ⟨ys, t, rfl, h0⟩) (by simp)).1
      have h2 := pw_pos ((ys ++ [t]).length - 1)
      exact ⟨by rw [hsg, if_neg (by omega)], by simp, by omega, hd⟩
    · right
      have hd : Dig ((ys ++ [t]).map fun x => -x) := fun x hx => by
        obtain ⟨y, hy, rfl⟩ := List.mem_map.1 hx
        have := hs y hy; omega
      have ht := hs t (by simp)
      have h1 := (nrm_len hd (.inr ⟨ys.map fun x => -x, -t, by simp, by omega⟩) (by simp)).1
      rw [val_neg] at h1
      have h2 := pw_pos (((ys ++ [t]).map fun x => -x).length - 1)
      exact ⟨by rw [hsg, if_pos (by omega)], by simp, by omega, hd⟩
theorem Sl.same {H : Heap} {v : AV} {xs : List Int} (h : Sl H v xs) : v.same v = true := by
  unfold Sl at h
  split at h <;> first | rfl | exact h.elim | simp [AV.same, AV.sames]
end Go.PI
/- compare. -/
open Go.Proofs
namespace Go.PI
open IM
set_option maxRecDepth 10000
set_option maxHeartbeats 1000000
variable (S : FuncId → Option (List AV → Heap → Option (AV × Heap)))
end Go.PI
/- short: a list of digits divided by one element. -/
open Go.Proofs
namespace Go.PI
open IM
set_option maxRecDepth 10000
set_option maxHeartbeats 1000000
variable (S : FuncId → Option (List AV → Heap → Option (AV × Heap)))
def Cp (v : AV) : Prop :=
  match v with
  | .sl _ _ l c => l ≤ c
  | _ => True
theorem Ow.cp {H : Heap} {v : AV} {b : Nat} {zs : List Int} {l : Nat} (h : Ow H v b zs l) : Cp v := by
  obtain ⟨-, -, ⟨c, rfl, h, -⟩ | rfl⟩ := h
  · exact h
  · trivial
theorem Mine.cp {H0 H : Heap} {b0 : Nat} {v : AV} {xs : List Int} (h : Mine H0 b0 v xs H) : Cp v := by
  obtain ⟨-, -, b, zs, hO, -⟩ := h
  exact hO.cp
def Nw (H : Heap) (v : AV) (xs : List Int) (H' : Heap) : Prop := (v = .nils ∧ xs = [] ∧ H.n ≤ H'.n) ∨ Mine H H.n v xs H'
theorem Nw.sl {H H' : Heap} {v : AV} {xs : List Int} (h : Nw H v xs H') : Sl H' v xs := by
  rcases h with ⟨rfl, rfl, -⟩ | h
  · rfl
  · exact h.sl
theorem Nw.cp {H H' : Heap} {v : AV} {xs : List Int} (h : Nw H v xs H') : Cp v := by
  rcases h with ⟨rfl, rfl, -⟩ | h
  · trivial
  · exact h.cp
end Go.PI
/- subtract, digit. -/
open Go.Proofs
namespace Go.PI
open IM
set_option maxRecDepth 10000
set_option maxHeartbeats 1000000
variable (S : FuncId → Option (List AV → Heap → Option (AV × Heap)))
def nb (v : AV) (b : Nat) : Prop :=
  match v with
  | .sl b' _ _ _ => b' ≠ b
  | .slu b' _ _ _ => b' ≠ b
  | _ => True
theorem Sl.other {H H' : Heap} {v : AV} {xs : List Int} {b : Nat} (h : Sl H v xs) (hv : nb v b) (k : ∀ A, A ≠ b → H'.get A = H.get A) : Sl H' v xs := by
  unfold Sl at *
  unfold nb at hv
  split at h <;> try exact h
  · obtain ⟨h1, rw, ty, cs, h2, h3⟩ := h
    exact ⟨h1, rw, ty, cs, by rw [k _ hv]; exact h2, h3⟩
  · obtain ⟨h0, h1, rw, ty, cs, h2, h3⟩ := h
    exact ⟨h0, h1, rw, ty, cs, by rw [k _ hv]; exact h2, h3⟩
section
variable {C : Ctx} (hT : C.ty = tget)
include hT
end
end Go.PI
/- digit. -/
open Go.Proofs
namespace Go.PI
open IM
set_option maxRecDepth 10000
set_option maxHeartbeats 2000000
variable (S : FuncId → Option (List AV → Heap → Option (AV × Heap)))
end Go.PI
/- stretched; the first guess's divisor. -/
open Go.Proofs
namespace Go.PI
open IM
set_option maxRecDepth 10000
set_option maxHeartbeats 1000000
variable (S : FuncId → Option (List AV → Heap → Option (AV × Heap)))
end Go.PI
/- quotient. -/
open Go.Proofs
namespace Go.PI
open IM
set_option maxRecDepth 10000
set_option maxHeartbeats 4000000
variable (S : FuncId → Option (List AV → Heap → Option (AV × Heap)))
structure OldI (S : FuncId → Option (List AV → Heap → Option (AV × Heap))) : Prop where
  o : Old S
  h78 : S 78 = none
  h153 : S 153 = none
  h188 : S 188 = none
  h192 : S 192 = none
  h164 : S 164 = none
  h152 : S 152 = none
  h154 : S 154 = none
  h165 : S 165 = none
  h166 : S 166 = none
  h193 : S 193 = none
  h182 : S 182 = none
  h203 : S 203 = none
  h204 : S 204 = none
  h187 : S 187 = none
  h189 : S 189 = none
  h190 : S 190 = none
  h191 : S 191 = none
  h201 : S 201 = none
  h210 : S 210 = none
  h205 : S 205 = none
  h206 : S 206 = none
  h207 : S 207 = none
  h208 : S 208 = none
  h211 : S 211 = none
end Go.PI
/- quotient, all cases; divide. -/
open Go.Proofs
namespace Go.PI
open IM
set_option maxRecDepth 10000
set_option maxHeartbeats 4000000
variable (S : FuncId → Option (List AV → Heap → Option (AV × Heap)))
theorem IM.Nrm.sml' {xs : List Int} (h : Nrm xs) : Sml xs := fun x hx => by
  rcases h.1 with h1 | h1 <;> have := h1 x hx <;> omega
theorem abs_digits {xs : List Int} (h : Nrm xs) : (sgnL xs < 0 → negL xs = digits ((val xs).natAbs : Int)) ∧ (¬ sgnL xs < 0 → xs = digits ((val xs).natAbs : Int)) := by
  have e := digits_val h
  rcases sgn_val h with ⟨a1, a2, a3⟩ | ⟨a1, a2, a3, -⟩ | ⟨a1, a2, a3, -⟩
  · refine ⟨fun h => by omega, fun _ => ?_⟩
    rw [a3, a2]; rfl
  · refine ⟨fun h => by omega, fun _ => ?_⟩
    conv => lhs; rw [← e]
    congr 1; omega
  · refine ⟨fun _ => ?_, fun h => by omega⟩
    unfold negL
    rw [← e, negd, e]
    congr 1; omega
theorem abs_len {xs : List Int} (h : Nrm xs) : (digits ((val xs).natAbs : Int)).length = xs.length := by
  obtain ⟨h1, h2⟩ := abs_digits h
  by_cases hs : sgnL xs < 0
  · rw [← h1 hs]; simp [negL]
  · rw [← h2 hs]
theorem dig_digits {v : Int} (h : 0 ≤ v) : Dig (digits v) := nrm_pos (nrm_digits v) (by rw [val_digits]; exact h)
theorem len_of {v : Int} {k : Nat} (h : -pw k < v ∧ v < pw k) : (digits v).length ≤ k := by
  have key : ∀ w : Int, 0 ≤ w → w < pw k → (digits w).length ≤ k := fun w h0 h1 => by
    rcases Nat.lt_or_ge k (digits w).length with hl | hl
    · exfalso
      have := (nrm_len (dig_digits h0) (nrm_digits w).2 (by intro h; rw [h] at hl; simp at hl)).1
      rw [val_digits] at this
      have := pw_mono (show k ≤ (digits w).length - 1 by omega)
      omega
    · exact hl
  rcases ilt_or v 0 with h0 | h0
  · have := abs_len (nrm_digits v)
    rw [val_digits] at this
    rw [← this]
    exact key _ (by omega) (by omega)
  · exact key v h0 h.2
end Go.PI
/- The reference of the integers: split, trim, signed, Negative, size. -/
open Go.Proofs
namespace Go.PI
open IM
set_option maxRecDepth 10000
set_option maxHeartbeats 4000000
variable (S : FuncId → Option (List AV → Heap → Option (AV × Heap)))
structure RV (H : Heap) (v : AV) (xs : List Int) : Prop where
  sl : Sl H v xs
  cp : Cp v
  ns : v ≠ .sle
end Go.PI
/- The reference's Normal. -/
open Go.Proofs
namespace Go.PI
open IM
set_option maxRecDepth 10000
set_option maxHeartbeats 4000000
variable (S : FuncId → Option (List AV → Heap → Option (AV × Heap)))
def MN (H0 : Heap) (u : AV) (xs : List Int) (H : Heap) : Prop := (u = .nils ∧ xs = [] ∧ H0.n ≤ H.n ∧ ∀ A, A < H0.n → H.get A = H0.get A) ∨ Mine H0 H0.n u xs H
theorem MN.n {H0 H : Heap} {u : AV} {xs : List Int} (h : MN H0 u xs H) : H0.n ≤ H.n := by
  rcases h with ⟨-, -, h, -⟩ | h
  · exact h
  · exact h.n
theorem MN.keep {H0 H : Heap} {u : AV} {xs : List Int} (h : MN H0 u xs H) : ∀ A, A < H0.n → H.get A = H0.get A := by
  rcases h with ⟨-, -, -, h⟩ | h
  · exact h
  · exact fun A hA => h.keep A hA (by omega)
theorem Mine.up {H0 H1 H2 : Heap} {v : AV} {xs : List Int} (h : Mine H1 H1.n v xs H2) (hn : H0.n ≤ H1.n) (hk : ∀ A, A < H0.n → H1.get A = H0.get A) : Mine H0 H0.n v xs H2 := by
  obtain ⟨h1, h2, b, zs, h3, h4, h5⟩ := h
  exact ⟨by omega, fun A hA _ => (h2 A (by omega) (by omega)).trans (hk A hA), b, zs, h3, h4, .inr (by omega)⟩
end Go.PI
/- The reference's Add, Neg, Sub, Sign, Cmp, less. -/
open Go.Proofs
namespace Go.PI
open IM
set_option maxRecDepth 10000
set_option maxHeartbeats 4000000
variable (S : FuncId → Option (List AV → Heap → Option (AV × Heap)))
structure OldR (S : FuncId → Option (List AV → Heap → Option (AV × Heap))) : Prop where
  h82 : S 82 = none
  h75 : S 75 = none
  h90 : S 90 = none
  h62 : S 62 = none
  h109 : S 109 = none
  h134 : S 134 = none
  h124 : S 124 = none
  h125 : S 125 = none
  h126 : S 126 = none
  h118 : S 118 = none
  h142 : S 142 = none
  h141 : S 141 = none
  h143 : S 143 = none
  h168 : S 168 = none
structure SV (H : Heap) (v : AV) (xs : List Int) (X : Int) : Prop where
  sl : Sl H v xs
  in64 : ∀ e ∈ xs, In64 e
  len : xs.length ≤ 20
  val : val xs = X
  dl : (digits X).length ≤ 20
theorem SV.of {H : Heap} {v : AV} {X : Int} (h : Sl H v (digits X)) (hb : -pw 20 < X ∧ X < pw 20) : SV H v (digits X) X :=
  ⟨h, fun e he => by have := (nrm_digits X).sml' e he; unfold In64; omega, len_of hb, val_digits X, len_of hb⟩
end Go.PI
/- The reference's Cmp, less, Mul. -/
open Go.Proofs
namespace Go.PI
open IM
set_option maxRecDepth 10000
set_option maxHeartbeats 4000000
variable (S : FuncId → Option (List AV → Heap → Option (AV × Heap)))
end Go.PI
/- The reference's Mul. -/
open Go.Proofs
namespace Go.PI
open IM
set_option maxRecDepth 10000
set_option maxHeartbeats 4000000
variable (S : FuncId → Option (List AV → Heap → Option (AV × Heap)))
end Go.PI
/- The reference's Add, Neg, Sub, Sign, Mul for integers of up to 200 elements. -/
open Go.Proofs
namespace Go.PI
open IM
set_option maxRecDepth 10000
set_option maxHeartbeats 4000000
variable (S : FuncId → Option (List AV → Heap → Option (AV × Heap)))
structure SVB (H : Heap) (v : AV) (xs : List Int) (X : Int) : Prop where
  sl : Sl H v xs
  in64 : ∀ e ∈ xs, In64 e
  len : xs.length ≤ 200
  val : val xs = X
  dl : (digits X).length ≤ 200
theorem SVB.of {H : Heap} {v : AV} {X : Int} (h : Sl H v (digits X)) (hb : -pw 200 < X ∧ X < pw 200) : SVB H v (digits X) X :=
  ⟨h, fun e he => by have := (nrm_digits X).sml' e he; unfold In64; omega, len_of hb, val_digits X, len_of hb⟩
end Go.PI
/- PLAIN VALUES: the arithmetic of integers of any size. -/
open Go.Proofs
namespace Go.PI
open IM
set_option maxRecDepth 10000
set_option maxHeartbeats 1000000
theorem ints_rel {H : Heap} {W : Nat → Prop} : ∀ {xs : List Int} {l : List AV}, All2 (RelC H W) (xs.map pn) l → l = ints xs
  | [], _, h => by cases h; rfl
  | x :: xs, _, h => by
    cases h with
    | cons h1 h2 =>
      cases h1
      rw [ints_rel h2]
      rfl
theorem rel_ints {H : Heap} {W : Nat → Prop} : ∀ (xs : List Int), All2 (RelC H W) (xs.map pn) (ints xs)
  | [] => .nil
  | x :: xs => .cons (.int _ _) (rel_ints xs)
variable (S : FuncId → Option (List AV → Heap → Option (AV × Heap)))
structure Rw (xs : List Int) (X : Int) : Prop where
  in64 : ∀ e ∈ xs, In64 e
  len : xs.length ≤ 200
  val : val xs = X
  dl : (digits X).length ≤ 200
theorem Rw.of {X : Int} (h : (digits X).length ≤ 200) : Rw (digits X) X := ⟨fun e he => by have := (nrm_digits X).sml' e he; unfold In64; omega, h, val_digits X, h⟩
theorem Rw.one {c : Int} (h : -100000000 < c ∧ c < 100000000) : Rw [c] c := by
  have p1 : pw 1 = 100000000 := by decide
  have hl : (digits c).length ≤ 1 := len_of (k := 1) (by omega)
  refine ⟨fun e he => ?_, by simp, by simp [IM.val], by omega⟩
  simp at he
  subst he
  unfold In64; omega
end Go.PI
/- slices of integers, which need not be in normal form -/
open Go.Proofs
namespace Go.PI
open IM
set_option maxRecDepth 10000
set_option maxHeartbeats 4000000
end Go.PI
/- trim, signed, size and Normal of the reference, with plain values. -/
open Go.Proofs
namespace Go.PI
open IM
set_option maxRecDepth 10000
set_option maxHeartbeats 4000000
variable (S : FuncId → Option (List AV → Heap → Option (AV × Heap)))
end Go.PI
/- signed, size and Normal of the reference, with plain values. -/
open Go.Proofs
namespace Go.PI
open IM
set_option maxRecDepth 10000
set_option maxHeartbeats 4000000
variable (S : FuncId → Option (List AV → Heap → Option (AV × Heap)))
end Go.PI
/- quotient, compare, Clone, with plain values. -/
open Go.Proofs
namespace Go.PI
open IM
set_option maxRecDepth 10000
set_option maxHeartbeats 4000000
variable (S : FuncId → Option (List AV → Heap → Option (AV × Heap)))
end Go.PI
/- leading, mixed. -/
open Go.Proofs
namespace Go.PI
open IM
set_option maxRecDepth 10000
set_option maxHeartbeats 4000000
variable (S : FuncId → Option (List AV → Heap → Option (AV × Heap)))
end Go.PI
/- euclid. -/
open Go.Proofs
namespace Go.PI
open IM
set_option maxRecDepth 10000
set_option maxHeartbeats 4000000
variable (S : FuncId → Option (List AV → Heap → Option (AV × Heap)))
structure Euc (X Y a b c d : Int) : Prop where
  lt : 0 ≤ c * X + d * Y ∧ c * X + d * Y < a * X + b * Y
  le : a * X + b * Y ≤ X
  half : 2 * ((a * X + b * Y) * (c * X + d * Y)) ≤ X * Y
  g : ∀ k : Int, (k ∣ a * X + b * Y ∧ k ∣ c * X + d * Y) ↔ (k ∣ X ∧ k ∣ Y)
  ha : -100000000 ≤ a ∧ a ≤ 100000000
  hb : -100000000 ≤ b ∧ b ≤ 100000000
  hc : -100000000 ≤ c ∧ c ≤ 100000000
  hd : -100000000 ≤ d ∧ d ≤ 100000000
end Go.PI
/- gcd: what is said of integers. -/
open Go.Proofs
namespace Go.PI
open IM
set_option maxRecDepth 10000
set_option maxHeartbeats 4000000
variable (S : FuncId → Option (List AV → Heap → Option (AV × Heap)))
end Go.PI
/- gcd and divide of the program, with plain values. -/
open Go.Proofs
namespace Go.PI
open IM
set_option maxRecDepth 10000
set_option maxHeartbeats 4000000
variable (S : FuncId → Option (List AV → Heap → Option (AV × Heap)))
end Go.PI
/- divide, Gcd and DivMod of the reference, with plain values. -/
open Go.Proofs
namespace Go.PI
open IM
set_option maxRecDepth 10000
set_option maxHeartbeats 4000000
variable (S : FuncId → Option (List AV → Heap → Option (AV × Heap)))
end Go.PI
/- divide, and what is divided by a common divisor. -/
open Go.Proofs
namespace Go.PI
open IM
set_option maxRecDepth 10000
set_option maxHeartbeats 4000000
variable (S : FuncId → Option (List AV → Heap → Option (AV × Heap)))
end Go.PI
/- What is asked of a table of summaries. -/
namespace Go.PI
def OldO (S : FuncId → Option (List AV → Heap → Option (AV × Heap))) : Prop := ∀ f, ¬ (f = 12 ∨ f = 112) → S f = none
end Go.PI
/- SMALL FUNCTIONS of package count and of its reference: within, sums of divisors, squares of primes. -/
open Go.Proofs
namespace Go.PI
open IM
set_option maxRecDepth 20000
set_option maxHeartbeats 4000000
variable (S : FuncId → Option (List AV → Heap → Option (AV × Heap)))
theorem fn57 : ctx.fn 57 = some c57 := by kernel_rfl
theorem fn21 : ctx.fn 21 = some c21 := by kernel_rfl
theorem within_ct (hS : OldO S) {n a b : Int} : Ct (ctx.plus S) 57 [pn n, pn a, pn b] 0 fun r => r = .bool (decide (a ≤ n ∧ n ≤ b)) := by
  refine ct_of (hS 57 (by decide)) fn57 ?_
  refine ⟨fun h1 => ?_, fun h1 => ?_⟩
  · refine ⟨fun h2 => ?_, fun h2 => ?_⟩
    · exact endq rfl (by rw [decide_eq_true ⟨by omega, by omega⟩])
    · exact endq rfl (by rw [decide_eq_false (by omega)])
  · exact endq rfl (by rw [decide_eq_false (by omega)])
theorem rwithin_ct (hS : OldO S) {n a b : Int} : Ct (ctx.plus S) 21 [pn n, pn a, pn b] 0 fun r => r = .bool (decide (a ≤ n ∧ n ≤ b)) := by
  refine ct_of (hS 21 (by decide)) fn21 ?_
  refine ⟨fun h1 => ?_, fun h1 => ?_⟩
  · refine ⟨fun h2 => ?_, fun h2 => ?_⟩
    · exact endq rfl (by rw [decide_eq_true ⟨by omega, by omega⟩])
    · exact endq rfl (by rw [decide_eq_false (by omega)])
  · exact endq rfl (by rw [decide_eq_false (by omega)])
end Go.PI
/- LISTS COMPARED; integers in lowest terms. -/
open Go.Proofs
namespace Go.PI
open IM
set_option maxRecDepth 20000
set_option maxHeartbeats 4000000
variable (S : FuncId → Option (List AV → Heap → Option (AV × Heap)))
theorem xs_get {xs : List Int} {i : Nat} (h : i < xs.length) : ∃ e, xs[i]? = some e := ⟨xs[i], List.getElem?_eq_getElem _⟩
theorem fn19 : ctx.fn 19 = some c19 := by kernel_rfl
def Eqs (xs ys : List Int) (i : Nat) : Prop := xs.take i = ys.take i
theorem eqs_next {xs ys : List Int} {i : Nat} {a b : Int} (h : Eqs xs ys i) (hx : xs[i]? = some a) (hy : ys[i]? = some b) (he : a = b) : Eqs xs ys (i + 1) := by
  unfold Eqs at *
  rw [take_snoc hx, take_snoc hy, h, he]
theorem ints_ct (hS : OldO S) {xs ys : List Int} (hx : xs.length ≤ 1000000) (hy : ys.length ≤ 1000000) : Ct (ctx.plus S) 19 [pIs xs, pIs ys] 0 fun r => r = .bool (decide (xs = ys)) := by
  refine ct_of (hS 19 (by decide)) fn19 ?_
  refine ⟨fun hne => ?_, fun heq => ?_⟩
  · exact endq rfl (by rw [decide_eq_false (fun h => hne (by rw [h]))])
  have hle : xs.length = ys.length := by omega
  refine ⟨fun m s => ∃ (i : Nat) (T : List PV), s = ⟨T, [], 0⟩ ∧ Gt T 26 [(0, pIs xs), (1, pIs ys), (5, pn i)] ∧ m = xs.length - i ∧ i ≤ xs.length ∧ Hid (Eqs xs ys i), ⟨_, ci ⟨0, _, rfl, ⟨rfl, rfl, rfl, rfl, trivial⟩, rfl, Nat.zero_le _, ⟨rfl⟩⟩⟩, ?_⟩
  rintro _ s ⟨i, T, rfl, hT, rfl, hi, hn⟩
  obtain ⟨J, rfl⟩ := gt_open hT
  clear hT
  refine ⟨fun hlt => ?_, fun hge => ?_⟩
  · obtain ⟨a, ha⟩ := xs_get (xs := xs) (i := i) (by omega)
    obtain ⟨b, hb⟩ := xs_get (xs := ys) (i := i) (by omega)
    refine ⟨by kernel_rfl, ?_⟩
    refine ⟨⟨⟨by omega, by omega⟩, len_map_le (by omega)⟩, ?_⟩
    refine ⟨_, ld (at_map ha) (by show _ * 1 = i; omega), rfl, ?_⟩
    refine ⟨⟨⟨by omega, by omega⟩, len_map_le (by omega)⟩, ?_⟩
    refine ⟨_, ld (at_map hb) (by show _ * 1 = i; omega), rfl, ?_⟩
    refine ⟨fun hne => ?_, fun heq => ?_⟩
    · exact endq rfl (by rw [decide_eq_false (fun h => by rw [h, hb] at ha; cases ha; exact hne rfl)])
    · refine ⟨⟨by omega, by omega⟩, ?_⟩
      exact ⟨_, by omega, ci ⟨i + 1, _, rfl, ⟨rfl, rfl, rfl, rfl, trivial⟩, rfl, by omega, ⟨eqs_next hn.h ha hb (by omega)⟩⟩⟩
  · exact endq rfl (by rw [decide_eq_true (by have := hn.h; unfold Eqs at this; rwa [List.take_of_length_le (by omega), List.take_of_length_le (by omega)] at this)])
end Go.PI
