/- Own work of the verifier: PiNormal PiFresh PiPlus PiProd. -/
import Derived.Test.YtgmhmahdmbdngaaGreatDoorGvAN
set_option linter.all false
set_option linter.deprecated false
open Go.Proofs
namespace Go.PI
open IM
theorem fn180 : ctx.fn 180 = some c180 := by kernel_rfl
theorem fn109 : ctx.fn 109 = some c109 := by kernel_rfl
theorem fn106 : ctx.fn 106 = some c106 := by kernel_rfl
def okE (t e : Int) : Bool := decide (-100000000 < e) && decide (e < 100000000) && (decide (0 <= e) || decide (t <= 0)) && (decide (e <= 0) || decide (0 <= t))
def nrmB (xs : List Int) : Bool :=
  match xs.getLast? with
  | none => true
  | some t => xs.all (okE t) && decide (t ≠ 0)
theorem nrmB_nrm {xs : List Int} (h : nrmB xs = true) : Nrm xs := by
  unfold nrmB at h
  cases hl : xs.getLast? with
  | none =>
    have : xs = [] := by simpa using hl
    subst this
    exact nrm_nil
  | some t =>
    rw [hl] at h
    simp only [Bool.and_eq_true, List.all_eq_true, decide_eq_true_eq] at h
    obtain ⟨h1, h2⟩ := h
    obtain ⟨ys, rfl⟩ : ∃ ys, xs = ys ++ [t] := List.getLast?_eq_some_iff.1 hl
    refine ⟨?_, .inr ⟨ys, t, rfl, h2⟩⟩
    rcases Int.lt_or_gt_of_ne h2 with h3 | h3
    · refine .inr fun x hx => ?_
      have := h1 x hx
      simp only [okE, Bool.and_eq_true, Bool.or_eq_true, decide_eq_true_eq] at this
      omega
    · refine .inl fun x hx => ?_
      have := h1 x hx
      simp only [okE, Bool.and_eq_true, Bool.or_eq_true, decide_eq_true_eq] at this
      omega
theorem nrm_nrmB {xs : List Int} (h : Nrm xs) : nrmB xs = true := by
  unfold nrmB
  cases hl : xs.getLast? with
  | none => rfl
  | some t =>
    simp only [Bool.and_eq_true, List.all_eq_true, decide_eq_true_eq]
    have ht := top_last h.top t hl
    have hm := List.mem_of_getLast? hl
    refine ⟨fun x hx => ?_, ht⟩
    simp only [okE, Bool.and_eq_true, Bool.or_eq_true, decide_eq_true_eq]
    rcases h.side with h1 | h1
    · have := h1 x hx; have := h1 t hm; omega
    · have := h1 x hx; have := h1 t hm; omega
theorem Nrm.sml {xs : List Int} (h : Nrm xs) : Sml xs := fun x hx => by
  rcases h.side with h1 | h1 <;> have := h1 x hx <;> omega
set_option maxRecDepth 10000
set_option maxHeartbeats 1000000
variable (S : FuncId -> Option (List AV -> Heap -> Option (AV × Heap)))
theorem isNormal_run (h180 : S 180 = none) {H : Heap} {v : AV} {xs : List Int} (hlb : xs.length <= 1073741824) (h : Sl H v xs) :
    Cl (ctx.plus S) 180 [v] H fun r H' => r = .bool (nrmB xs) /\ H = H' := by
  refine cl_of h180 fn180 ?_
  have hT : (ctx.plus S).ty = tget := rfl
  refine ⟨_, len_sl hT (v := v) rfl h, ?_⟩
  refine ⟨fun h0 => ?_, fun h0 => ?_⟩
  · have : xs = [] := List.eq_nil_of_length_eq_zero (by omega)
    subst this
    exact ⟨rfl, rfl⟩
  · obtain ⟨t, ht⟩ : ∃ e, xs[xs.length - 1]? = some e := ⟨xs[xs.length - 1]'(by omega), List.getElem?_eq_getElem _⟩
    have hs : nrmB xs = (xs.all (okE t) && decide (t ≠ 0)) := by
      unfold nrmB
      rw [List.getLast?_eq_getElem?, ht]
    refine ⟨_, len_sl hT (v := v) rfl h, ?_⟩
    refine ⟨⟨by omega, by omega⟩, ?_⟩
    refine ⟨_, idx_sl hT (v := v) (n := (xs.length : Int) - 1) (k := xs.length - 1) rfl rfl h (by omega) (by omega), ?_⟩
    refine ⟨_, load_sl hT h ht, ?_⟩
    refine ⟨_, len_sl hT (v := v) rfl h, ?_⟩
    refine ⟨fun m s => ∃ (i : Nat) (n : Int) (j1 j2 j4 j5 j6 j7 j8 j9 j10 j11 j12 j13 j14 j18 j19 j20 j21 j22 j23 j24 j25 j26 j27 j28 j29 j30 j31 j32 j33 j34 j35 j36 j37 j38 j39 j40 j41 j42 j43 j44 j45 : AV),
      s = ⟨[v, j1, j2, iv t, j4, j5, j6, j7, j8, j9, j10, j11, j12, j13, j14, v, iv xs.length, iv n, j18, j19, j20, j21, j22, j23, j24, j25, j26, j27, j28, j29, j30, j31, j32, j33, j34, j35, j36, j37, j38, j39, j40, j41, j42, j43, j44, j45], H, []⟩ /\ m = xs.length - i /\ n = i /\ i <= xs.length /\ (∀ j e, j < i -> xs[j]? = some e -> okE t e = true), ⟨xs.length, ?_⟩, ?_⟩
    · exact ⟨0, _, _, _, _, _, _, _, _, _, _, _, _, _, _, _, _, _, _, _, _, _, _, _, _, _, _, _, _, _, _, _, _, _, _, _, _, _, _, _, _, _, _, rfl, rfl, rfl, Nat.zero_le _, fun j e h1 h2 => by omega⟩
    · rintro m s ⟨i, n, j1, j2, j4, j5, j6, j7, j8, j9, j10, j11, j12, j13, j14, j18, j19, j20, j21, j22, j23, j24, j25, j26, j27, j28, j29, j30, j31, j32, j33, j34, j35, j36, j37, j38, j39, j40, j41, j42, j43, j44, j45, rfl, hm, rfl, hi, hz⟩
      refine ⟨fun hlt => ?_, fun hge => ?_⟩
      · obtain ⟨e, he⟩ : ∃ e, xs[i]? = some e := ⟨xs[i]'(by omega), List.getElem?_eq_getElem _⟩
        have leafF : okE t e = false -> nrmB xs = false := fun h1 => by
          rw [hs, Bool.and_eq_false_iff]
          exact .inl (List.all_eq_false.2 ⟨e, List.mem_of_getElem? he, by rw [h1]; simp⟩)
        have leafT : okE t e = true -> (∀ j e, j < i + 1 -> xs[j]? = some e -> okE t e = true) := fun h1 j e' h2 h3 => by
          by_cases hj : j = i
          · subst hj; rw [he] at h3; cases h3; exact h1
          · exact hz j e' (by omega) h3
        refine ⟨_, idx_sl hT (v := v) (n := (i : Int)) (k := i) rfl rfl h rfl (by omega), ?_⟩
        refine ⟨_, load_sl hT h he, ?_⟩
        repeat' (first | refine ⟨fun _ => ?_, fun _ => ?_⟩ | fail)
        all_goals first
          | (have hF := leafF (by simp only [okE, Bool.and_eq_false_iff, Bool.or_eq_false_iff, decide_eq_false_iff_not]; omega)
             exact ⟨by rw [hF], rfl⟩)
          | (have hF := leafT (by simp only [okE, Bool.and_eq_true, Bool.or_eq_true, decide_eq_true_eq]; omega)
             refine ⟨⟨by omega, by omega⟩, ?_⟩
             exact ⟨xs.length - (i + 1), by omega, i + 1, _, _, _, _, _, _, _, _, _, _, _, _, _, _, _, _, _, _, _, _, _, _, _, _, _, _, _, _, _, _, _, _, _, _, _, _, _, _, _, _, _, _, rfl, rfl, rfl, by omega, hF⟩)
      · have hall : xs.all (okE t) = true := List.all_eq_true.2 fun e he => by
          obtain ⟨j, hj⟩ := List.getElem?_of_mem he
          exact hz j e (by have := (List.getElem?_eq_some_iff.1 hj).1; omega) hj
        rw [hall, Bool.true_and] at hs
        refine ⟨fun h1 => ?_, fun h1 => ?_⟩
        · exact ⟨by rw [hs, decide_eq_true h1], rfl⟩
        · exact ⟨by rw [hs, decide_eq_false (by simpa using h1)], rfl⟩
end Go.PI

open Go.Proofs
namespace Go.PI
open IM
def toInts : List AV -> Option (List Int)
 | [] => some []
 | .int .i64 n :: r => match toInts r with
  | some xs => some (n :: xs)
  | none => none
 | _ => none
theorem toInts_some {cs : List AV} {xs : List Int} (h : toInts cs = some xs) : cs = ints xs := by
 induction cs generalizing xs with
 | nil => cases h; rfl
 | cons c cs ih =>
  unfold toInts at h
  split at h
  ·cases ‹_ = []›
  ·rename_i n r heq
   cases heq
   split at h
   ·rename_i ys hy; cases h; rw [ih hy]; rfl
   ·cases h
  ·cases h
theorem toInts_ints (xs : List Int) : toInts (ints xs) = some xs := by
 induction xs with
 | nil => rfl
 | cons x xs ih => simp only [ints, List.map_cons, toInts] at *; rw [ih]
def rowL (H : Heap) (b o l : Nat) : Option (List Int) :=
 match H.get b with
 | .cells _ _ cs => match Nat.ble (o + l) cs.length with
  | true => toInts ((cs.drop o).take l)
  | false => none
 | _ => none
def getL (H : Heap) : AV -> Option (List Int)
 | .nils => some []
 | .sle => some []
 | .sl b o l _ => rowL H b o l
 | .slu b o l e => match Nat.beq e 1 with
  | true => rowL H b o l
  | false => none
 | _ => none
theorem rowL_some {H : Heap} {b o l : Nat} {xs : List Int} (h : rowL H b o l = some xs) : l = xs.length /\ ∃ rw ty cs, H.get b = .cells rw ty cs /\ o + l <= cs.length /\ (cs.drop o).take l = ints xs := by
 unfold rowL at h
 split at h
 ·rename_i rw ty cs hg
  split at h
  ·rename_i hc
   have h2 := Nat.le_of_ble_eq_true hc
   have h3 := toInts_some h
   refine ⟨?_, rw, ty, cs, hg, h2, h3⟩
   have := congrArg List.length h3
   rw [ints_length] at this
   simp at this; omega
  ·cases h
 ·cases h
theorem getL_sl {H : Heap} {v : AV} {xs : List Int} (h : getL H v = some xs) : Sl H v xs := by
 unfold getL at h
 unfold Sl
 split at h
 ·cases h; rfl
 ·cases h; rfl
 ·exact rowL_some h
 ·split at h
  ·rename_i he; exact ⟨Nat.eq_of_beq_eq_true he, rowL_some h⟩
  ·cases h
 ·cases h
theorem sl_getL {H : Heap} {v : AV} {xs : List Int} (h : Sl H v xs) : getL H v = some xs := by
 have key : ∀ {b o l : Nat}, l = xs.length -> (∃ rw ty cs, H.get b = .cells rw ty cs /\ o + l <= cs.length /\ (cs.drop o).take l = ints xs) -> rowL H b o l = some xs := by
  rintro b o l rfl ⟨rw, ty, cs, h1, h2, h3⟩
  unfold rowL
  rw [h1]
  have : Nat.ble (o + xs.length) cs.length = true := by simp [h2]
  simp only [this, h3, toInts_ints]
 unfold Sl at h
 unfold getL
 split at h
 ·subst h; rfl
 ·subst h; rfl
 ·exact key h.1 h.2
 ·obtain ⟨rfl, h1, h2⟩ := h
  exact key h1 h2
 ·exact h.elim
def newL (xs : List Int) (H : Heap) : Option (AV × Heap) := some (.slu H.n 0 xs.length 1, H.push (.cells true 3 (ints xs)))
theorem rens_ints (H1 : Heap) (ρ : Nat -> Nat) (n : Nat) (xs : List Int) : All2 (Ren H1 ρ n) (ints xs) (ints xs) := by
 induction xs with
 | nil => exact .nil
 | cons x xs ih => exact .cons (.int _ _) ih
theorem less_fresh {H H1 : Heap} {r : AV} {xs : List Int} (hn : H.n < lim) (h : Mine H H.n r xs H1) : Less H (.slu H.n 0 xs.length 1) (H.push (.cells true 3 (ints xs))) r H1 := by
 obtain ⟨h1, h2, b, zs, hO, hx, hb⟩ := h
 have hb : H.n <= b := by omega
 have hp : ∀ A, (H.push (.cells true 3 (ints xs))).get A = if A = H.n then .cells true 3 (ints xs) else H.get A := Heap.get_push hn
 have hpn : (H.push (.cells true 3 (ints xs))).n = H.n + 1 := rfl
 have hlt : ∀ A, ((H.push (.cells true 3 (ints xs))).get A).live = true -> A < H.n + 1 := fun A hA => by
  have := Heap.lt_of_get (H := H.push (.cells true 3 (ints xs))) (A := A) (fun e => by rw [e] at hA; cases hA)
  rwa [hpn] at this
 obtain ⟨g1, g2, g3⟩ := hO
 refine less_of (fun A => if A < H.n then A else b) (by omega) (by rw [hpn]; unfold lim at *; omega) (fun A hA => if_pos hA) ?_ ?_ ?_ ?_
 ·intro A B hA hB hAB
  have := hlt A hA; have := hlt B hB
  by_cases h3 : A < H.n <;> by_cases h4 : B < H.n
  ·rw [if_pos h3, if_pos h4]; exact hAB
  ·rw [if_pos h3, if_neg h4]; omega
  ·rw [if_neg h3, if_pos h4]; omega
  ·omega
 ·intro A hA
  have hAl := hlt A hA
  by_cases h3 : A < H.n
  ·left
   refine ⟨h3, ?_, h2 A h3 (by omega)⟩
   rw [hp, if_neg (by omega)]
  ·right
   rw [if_neg h3, hp, if_pos (by omega), g1]
   refine .cells (by rw [ints_length, ints_length]; omega) ?_
   rw [ints_length, ints_take, hx]
   exact rens_ints _ _ _ _
 ·intro A hA ho
  rw [hp] at ho ⊢
  by_cases h3 : A = H.n
  ·rw [if_pos h3] at ho; cases ho
  ·rw [if_neg h3]
   exact ⟨by have := hlt A hA; omega, rfl⟩
 ·have e : (if H.n < H.n then H.n else b) = b := if_neg (by omega)
  rcases g3 with ⟨c, rfl, g4, g5⟩ | rfl
  ·conv => arg 5; rw [← e]
   refine .roomy (by rw [hpn]; omega) (rw := true) (ty := 3) (cs := ints zs) ?_ (by rw [ints_length]; omega) g4
   rw [e]; exact g1
  ·conv => arg 5; rw [← e]
   exact .slu (by rw [hpn]; omega)
def all64 (xs : List Int) : Bool := xs.all fun x => decide (-9223372036854775808 <= x) && decide (x < 9223372036854775808)
def allS (xs : List Int) : Bool := xs.all fun x => decide (-100000000 < x) && decide (x < 100000000)
theorem all64_in {xs : List Int} (h : all64 xs = true) : ∀ x ∈ xs, In64 x := fun x hx => by
 have := List.all_eq_true.1 h x hx
 simpa [In64] using this
theorem in_all64 {xs : List Int} (h : ∀ x ∈ xs, In64 x) : all64 xs = true := List.all_eq_true.2 fun x hx => by
 have := h x hx
 simpa [In64] using this
theorem allS_sml {xs : List Int} (h : allS xs = true) : Sml xs := fun x hx => by
 have := List.all_eq_true.1 h x hx
 simpa using this
theorem sml_allS {xs : List Int} (h : Sml xs) : allS xs = true := List.all_eq_true.2 fun x hx => by
 have := h x hx
 simpa using this
def roomB (H : Heap) : Bool := Nat.ble H.n 274877906944
def shortB (xs : List Int) : Bool := Nat.ble xs.length 1000000
theorem roomB_lt {H : Heap} (h : roomB H = true) : H.n <= 274877906944 := Nat.le_of_ble_eq_true h
theorem shortB_le {xs : List Int} (h : shortB xs = true) : xs.length <= 1000000 := Nat.le_of_ble_eq_true h
def whenB (b : Bool) (r : Option (AV × Heap)) : Option (AV × Heap) :=
 match b with
 | true => r
 | false => none
theorem whenB_some {b : Bool} {r : Option (AV × Heap)} {x : AV × Heap} (h : whenB b r = some x) : b = true /\ r = some x := by
 unfold whenB at h
 split at h
 ·exact ⟨rfl, h⟩
 ·cases h
theorem Mine.fresh_refl {H : Heap} {b : Nat} {zs : List Int} {v : AV} {l : Nat} {H1 : Heap} (hn : H.n <= H1.n) (hk : ∀ A, A < H.n -> H1.get A = H.get A) (hO : Ow H1 v b zs l) (hb : H.n <= b) : Mine H H.n v (zs.take l) H1 := by
 have hl := hO.2.1
 have e : (zs.take l).length = l := by simp; omega
 refine ⟨hn, fun A hA _ => hk A hA, b, zs, ?_, ?_, .inr hb⟩
 ·rw [e]; exact hO
 ·rw [e]
end Go.PI

open Go.Proofs
namespace Go.PI
open IM
theorem fn114 : ctx.fn 114 = some c114 := by kernel_rfl
theorem fn127 : ctx.fn 127 = some c127 := by kernel_rfl
theorem fn26 : ctx.fn 26 = some c26 := by kernel_rfl
theorem fn186 : ctx.fn 186 = some c186 := by kernel_rfl
theorem lenE_sl {H : Heap} {v : AV} {xs : List Int} (h : Sl H v xs) : lenE v = some xs.length := by
 unfold Sl at h
 split at h
 ·subst h; rfl
 ·subst h; rfl
 ·simp [lenE, h.1]
 ·simp [lenE, h.2.1]
 ·exact h.elim
theorem cellsE_sl {H : Heap} {v : AV} {xs : List Int} (h : Sl H v xs) {n : Nat} (hn : n <= xs.length) : cellsE H 1 n v = some (ints (xs.take n)) := by
 have key : ∀ {b o l : Nat}, l = xs.length -> (∃ rw ty cs, H.get b = .cells rw ty cs /\ o + l <= cs.length /\ (cs.drop o).take l = ints xs) -> (match H.get b with
   | .cells _ _ cs => if o + n * 1 <= cs.length then some ((cs.drop o).take (n * 1)) else none
   | _ => none) = some (ints (xs.take n)) := by
  rintro b o l rfl ⟨rw, ty, cs, h1, h2, h3⟩
  rw [h1]
  simp only [Nat.mul_one]
  rw [if_pos (by omega), ← ints_take, ← h3, List.take_take, Nat.min_eq_left hn]
 unfold Sl at h
 split at h
 ·subst h; simp at hn; subst hn; rfl
 ·subst h; simp at hn; subst hn; rfl
 ·exact key h.1 h.2
 ·exact key h.2.1 h.2.2
 ·exact h.elim
theorem max_two {C : Ctx} {ρ : Operand -> Option AV} {x y : Operand} {ts : Array TypeId} {m n : Nat} (hx : ρ x = some (iv m)) (hy : ρ y = some (iv n)) : pureE C ρ (.call { callee := .builtin .max, args := #[x, y], argTypes := ts }) = some (iv (max m n : Nat)) := by
 simp only [pureE, opds, hx, hy, builtinP, foldMinMax]
 simp
 by_cases h : m < n
 ·rw [if_pos (by omega)]; omega
 ·rw [if_neg (by omega)]; omega
/-! ### sums of lists, element by element -/
def addL (f : Int) : List Int -> List Int -> List Int
 | z :: zs, y :: ys => (z + f * y) :: addL f zs ys
 | zs, [] => zs
 | [], _ => []
theorem addL_nil (f : Int) (zs : List Int) : addL f zs [] = zs := by cases zs <;> rfl
theorem addL_length (f : Int) : ∀ (zs ys : List Int), (addL f zs ys).length = zs.length
 | [], [] => rfl
 | [], _ :: _ => rfl
 | _ :: _, [] => rfl
 | z :: zs, y :: ys => by simp [addL, addL_length f zs ys]
theorem addL_val (f : Int) : ∀ (zs ys : List Int), ys.length <= zs.length -> val (addL f zs ys) = val zs + f * val ys
 | zs, [], _ => by rw [addL_nil]; simp [val]
 | [], _ :: _, h => by simp at h
 | z :: zs, y :: ys, h => by
  simp only [addL, val]
  rw [addL_val f zs ys (by simpa using h)]
  rw [Int.mul_add, Int.mul_add, Int.mul_left_comm f]
  omega
theorem addL_get (f : Int) : ∀ (i : Nat) (zs ys : List Int) (z : Int), zs[i]? = some z -> ys.length <= i -> (addL f zs ys)[i]? = some z
 | _, zs, [], z, h, _ => by rw [addL_nil]; exact h
 | 0, zs, y :: ys, z, h, h2 => by simp at h2
 | i + 1, [], y :: ys, z, h, _ => by simp at h
 | i + 1, z' :: zs, y :: ys, z, h, h2 => by
  simp only [addL, List.getElem?_cons_succ] at *
  exact addL_get f i zs ys z h (by simpa using h2)
theorem addL_snoc (f : Int) : ∀ (ys zs : List Int) (y z : Int), zs[ys.length]? = some z -> addL f zs (ys ++ [y]) = (addL f zs ys).set ys.length (z + f * y)
 | [], z' :: zs, y, z, h => by
  simp at h; subst h
  simp [addL, addL_nil]
 | [], [], y, z, h => by simp at h
 | y' :: ys, [], y, z, h => by simp at h
 | y' :: ys, z' :: zs, y, z, h => by
  simp only [List.cons_append, addL, List.length_cons, List.set_cons_succ]
  rw [addL_snoc f ys zs y z (by simpa using h)]
theorem mul_bd {a b : Int} {m n : Int} (ha : -m <= a /\ a <= m) (hb : -n <= b /\ b <= n) : -(m * n) <= a * b /\ a * b <= m * n := by
 have hm : 0 <= m := by omega
 have hn : 0 <= n := by omega
 have h1 : (a * b).natAbs <= (m * n).natAbs := by
  rw [Int.natAbs_mul, Int.natAbs_mul]
  exact Nat.mul_le_mul (by omega) (by omega)
 have h2 : 0 <= m * n := Int.mul_nonneg hm hn
 omega
set_option maxRecDepth 10000
set_option maxHeartbeats 1000000
variable (S : FuncId -> Option (List AV -> Heap -> Option (AV × Heap)))
structure Old (S : FuncId -> Option (List AV -> Heap -> Option (AV × Heap))) : Prop where
 h113 : S 113 = none
 h183 : S 183 = none
 h184 : S 184 = none
 h185 : S 185 = none
 h125 : S 125 = none
theorem settle_old (hS : Old S) {H : Heap} {b0 : Nat} {H0 : Heap} {v : AV} {xs : List Int} (hn : H.n + 8 < lim) (hlb : xs.length <= 1000000000) (h : Mine H0 b0 v xs H) (hr : ∀ x ∈ xs, In64 x) :
  Cl (ctx.plus S) 113 [v] H fun r H' => Mine H0 b0 r (digits (val xs)) H' /\ H'.n <= H.n + 6 := settle_run S hS.h113 hS.h183 hS.h184 hS.h185 hS.h125 hn hlb h hr
theorem of_run2 (hS : Old S) (h26 : S 26 = none) {H : Heap} {n : Int} (hn : H.n + 12 < lim) (h : In64 n) : Cl (ctx.plus S) 26 [iv n] H fun r H' => Mine H H.n r (digits n) H' /\ H'.n <= H.n + 8 := by
 refine cl_of h26 fn26 ?_
 refine ⟨by omega, _, _, rfl, ?_⟩
 have hp := Heap.get_push (H := H) (b := .cells true 3 [iv n]) (by omega)
 have hpn : (H.push (.cells true 3 [iv n])).n = H.n + 1 := rfl
 have hM : Mine H H.n (.sl H.n 0 1 1) [n] (H.push (.cells true 3 [iv n])) :=
  ⟨by omega, fun A hA _ => by rw [hp, if_neg (by omega)], H.n, [n], ⟨by rw [hp, if_pos rfl]; rfl, by simp, .inl ⟨1, rfl, by simp, by simp⟩⟩, by simp, .inl rfl⟩
 refine (settle_old S hS (by omega) (by simp) hM (fun x hx => by simp at hx; subst hx; exact h)).mono ?_
 rintro r H' ⟨h1, h2⟩
 have hv : val [n] = n := by simp [val]
 rw [hv] at h1
 exact ⟨h1, by omega⟩
theorem of_run (hS : Old S) (h26 : S 26 = none) {H : Heap} {n : Int} (hn : H.n + 12 < lim) (h : In64 n) : Cl (ctx.plus S) 26 [iv n] H fun r H' => Mine H H.n r (digits n) H' :=
 (of_run2 S hS h26 hn h).mono fun _ _ h => h.1
theorem copy_new {C : Ctx} (hT : C.ty = tget) {H : Heap} {v : AV} {xs : List Int} {b n c : Nat} {zs : List Int} (h : Sl H v xs) (hb : H.get b = .cells true 3 (ints zs)) (hl : xs.length <= n) (hn : n <= zs.length) :
  copyE C [22, 22] (.sl b 0 n c) v H = some (iv xs.length, H.set b (.cells true 3 (ints (xs ++ zs.drop xs.length)))) := by
 have hmin : Nat.min xs.length n = xs.length := Nat.min_eq_left hl
 have hd : lenE (.sl b 0 n c) = some n := rfl
 simp only [copyE, ty22 hT, t22, ty3 hT, t3, hd, lenE_sl h, hmin, cellsE_sl h (Nat.le_refl _), hb, List.take_length, ones_ints]
 rw [if_pos ⟨by rw [ints_length, ints_length]; omega, trivial⟩]
 have : splice (ints zs) 0 (ints xs) = ints (xs ++ zs.drop xs.length) := by
  unfold splice
  rw [List.take_zero, List.nil_append, Nat.zero_add, ints_length, ints_drop, ints_append]
 rw [this]
theorem plus_run2 (hS : Old S) (h114 : S 114 = none) {H : Heap} {x y : AV} {f : Int} {xs ys : List Int} (hn : H.n + 20 < lim) (hx : Sl H x xs) (hy : Sl H y ys) (hxl : xs.length <= 1000000) (hyl : ys.length <= 1000000)
  (hxs : Sml xs) (hys : Sml ys) (hf : -100000000 <= f /\ f <= 100000000) : Cl (ctx.plus S) 114 [x, iv f, y] H fun r H' => Mine H H.n r (digits (val xs + f * val ys)) H' /\ H'.n <= H.n + 8 := by
 refine cl_of h114 fn114 ?_
 have hT : (ctx.plus S).ty = tget := rfl
 obtain ⟨N, hN⟩ : ∃ N, N = max xs.length ys.length := ⟨_, rfl⟩
 refine ⟨_, len_sl hT (v := x) rfl hx, ?_⟩
 refine ⟨_, len_sl hT (v := y) rfl hy, ?_⟩
 refine ⟨_, max_two (m := xs.length) (n := ys.length) rfl rfl, ?_⟩
 rw [← hN]
 refine ⟨⟨by omega, by omega⟩, ?_⟩
 refine ⟨by omega, ⟨by omega, by omega, by omega⟩, ?_⟩
 rw [show ((N : Int)).toNat = N by omega, show ((N : Int) + 1).toNat = N + 1 by omega, show (List.replicate (N + 1) t3.zero.cells).flatten = ints (List.replicate (N + 1) 0) from ints_zeros _]
 have hp := Heap.get_push (H := H) (b := .cells true 3 (ints (List.replicate (N + 1) 0))) (by omega)
 have hpn : (H.push (.cells true 3 (ints (List.replicate (N + 1) 0)))).n = H.n + 1 := rfl
 generalize H.push (.cells true 3 (ints (List.replicate (N + 1) 0))) = H1 at hp hpn ⊢
 have hk1 : ∀ A, A < H.n -> H1.get A = H.get A := fun A hA => by rw [hp, if_neg (by omega)]
 have hb1 : H1.get H.n = .cells true 3 (ints (List.replicate (N + 1) 0)) := by rw [hp, if_pos rfl]
 refine ⟨_, _, copy_new hT (hx.mono hk1) hb1 (by omega) (by simp), ?_⟩
 have hU : Upd H1 H.n (.cells true 3 (ints (xs ++ (List.replicate (N + 1) 0).drop xs.length))) (H1.set H.n (.cells true 3 (ints (xs ++ (List.replicate (N + 1) 0).drop xs.length)))) := upd_set (by omega) (by omega)
 generalize H1.set H.n _ = H2 at hU ⊢
 have hzs : xs ++ (List.replicate (N + 1) (0 : Int)).drop xs.length = xs ++ List.replicate (N + 1 - xs.length) 0 := by simp
 rw [hzs] at hU
 obtain ⟨Z, hZ⟩ : ∃ Z, Z = xs ++ List.replicate (N + 1 - xs.length) (0 : Int) := ⟨_, rfl⟩
 have hZl : Z.length = N + 1 := by rw [hZ]; simp; omega
 have hZs : Sml Z := by
  rw [hZ]
  intro z hz
  rcases List.mem_append.1 hz with h | h
  ·exact hxs z h
  ·have := (List.mem_replicate.1 h).2; omega
 have hZv : val Z = val xs := by rw [hZ, val_append, val_zeros]; simp
 have hZt : ∀ ys', ys'.length <= N -> val ((addL f Z ys').take N) = val Z + f * val ys' := fun ys' hl => by
  have h1 : addL f Z ys' = (addL f Z ys').take N ++ [0] := by
   have hlen := addL_length f Z ys'
   have hg : (addL f Z ys')[N]? = some 0 := addL_get f N Z ys' 0 (by rw [hZ, List.getElem?_append_right (by omega), List.getElem?_replicate, if_pos (by omega)]) hl
   rw [← take_snoc hg, List.take_of_length_le (by omega)]
  rw [← addL_val f Z ys' (by omega)]
  conv => rhs; rw [h1, val_append]
  simp [val]
 rw [← hZ] at hU
 clear hZ hzs hb1
 refine ⟨_, len_sl hT (v := y) rfl hy, ?_⟩
 have hk2 : ∀ A, A < H.n -> H2.get A = H.get A := fun A hA => by rw [hU.other A (by omega)]; exact hk1 A hA
 have hn2 : H2.n = H.n + 1 := by rw [hU.n]; exact hpn
 refine ⟨fun m s => ∃ (i : Nat) (n : Int) (H' : Heap) (j3 j4 j5 j6 j7 j9 j10 j11 j12 j13 j14 j15 j16 j17 j18 j19 j20 j21 j22 j26 j27 j28 j29 j30 j31 j32 j33 j34 j35 j36 j37 j38 j39 j40 j41 : AV),
  s = ⟨[x, iv f, y, j3, j4, j5, j6, j7, .sl H.n 0 N (N + 1), j9, j10, j11, j12, j13, j14, j15, j16, j17, j18, j19, j20, j21, j22, y, iv ys.length, iv n, j26, j27, j28, j29, j30, j31, j32, j33, j34, j35, j36, j37, j38, j39, j40, j41], H', []⟩ /\ m = ys.length - i /\ n = i /\ i <= ys.length /\ Upd H2 H.n (.cells true 3 (ints (addL f Z (ys.take i)))) H', ⟨ys.length, ?_⟩, ?_⟩
 ·exact ⟨0, _, H2, _, _, _, _, _, _, _, _, _, _, _, _, _, _, _, _, _, _, _, _, _, _, _, _, _, _, _, _, _, _, _, _, _, _, _, rfl, rfl, rfl, Nat.zero_le _, Upd.refl (by rw [List.take_zero, addL_nil]; exact hU.at_)⟩
 ·rintro m s ⟨i, n, H', j3, j4, j5, j6, j7, j9, j10, j11, j12, j13, j14, j15, j16, j17, j18, j19, j20, j21, j22, j26, j27, j28, j29, j30, j31, j32, j33, j34, j35, j36, j37, j38, j39, j40, j41, rfl, hm, rfl, hi, hV⟩
  have hk : ∀ A, A < H.n -> H'.get A = H.get A := fun A hA => by rw [hV.other A (by omega)]; exact hk2 A hA
  have hn' : H'.n = H.n + 1 := by rw [hV.n]; exact hn2
  have hOw : Ow H' (.sl H.n 0 N (N + 1)) H.n (addL f Z (ys.take i)) N := ⟨hV.at_, by rw [addL_length]; omega, .inl ⟨N + 1, rfl, by omega, by rw [addL_length]; omega⟩⟩
  refine ⟨fun hlt => ?_, fun hge => ?_⟩
  ·obtain ⟨e, he⟩ : ∃ e, ys[i]? = some e := ⟨ys[i]'(by omega), List.getElem?_eq_getElem _⟩
   obtain ⟨z, hz⟩ : ∃ z, Z[i]? = some z := ⟨Z[i]'(by omega), List.getElem?_eq_getElem _⟩
   have heB := hys e (List.mem_of_getElem? he)
   have hzB := hZs z (List.mem_of_getElem? hz)
   have hfe := mul_bd (a := f) (b := e) (m := 100000000) (n := 100000000) (by omega) (by omega)
   have hgz : (addL f Z (ys.take i))[i]? = some z := addL_get f i Z (ys.take i) z hz (by simp; omega)
   refine ⟨_, idx_sl hT (v := y) (n := i) rfl rfl (hy.mono hk) rfl (by omega), ?_⟩
   refine ⟨_, load_sl hT (hy.mono hk) he, ?_⟩
   have htl : ((addL f Z (ys.take i)).take N).length = N := by simp [addL_length]; omega
   refine ⟨_, idx_sl hT (v := .sl H.n 0 N (N + 1)) (n := i) rfl rfl hOw.sl rfl (by omega), ?_⟩
   refine ⟨_, load_sl hT hOw.sl (x := z) (by rw [List.getElem?_take, if_pos (by omega)]; exact hgz), ?_⟩
   refine ⟨⟨by omega, by omega⟩, ?_⟩
   refine ⟨⟨by omega, by omega⟩, ?_⟩
   refine ⟨_, idx_sl hT (v := .sl H.n 0 N (N + 1)) (n := i) rfl rfl hOw.sl rfl (by omega), ?_⟩
   refine ⟨_, store_ow hT hOw (by omega), ?_⟩
   refine ⟨⟨by omega, by omega⟩, ?_⟩
   refine ⟨ys.length - (i + 1), by omega, i + 1, _, _, _, _, _, _, _, _, _, _, _, _, _, _, _, _, _, _, _, _, _, _, _, _, _, _, _, _, _, _, _, _, _, _, _, _, _, rfl, rfl, rfl, by omega, ?_⟩
   rw [take_snoc he, addL_snoc f (ys.take i) Z e z (by rw [List.length_take, Nat.min_eq_left (by omega)]; exact hz), List.length_take, Nat.min_eq_left (by omega)]
   exact hV.trans (upd_set (by omega) (by omega))
  ·have hiy : i = ys.length := by omega
   subst hiy
   rw [List.take_length] at hV hOw
   have hM : Mine H H.n (.sl H.n 0 N (N + 1)) ((addL f Z ys).take N) H' := Mine.fresh_refl (by omega) hk hOw (Nat.le_refl _)
   refine (settle_old S hS (by omega) (by simp [addL_length]; omega) hM ?_).mono ?_
   ·have key : ∀ (zs us : List Int), Sml zs -> Sml us -> ∀ w ∈ addL f zs us, -10000000100000000 <= w /\ w <= 10000000100000000 := by
     intro zs
     induction zs with
     | nil => intro us _ _ w hw; cases us <;> cases hw
     | cons z zs ih =>
      intro us hz hu w hw
      cases us with
      | nil =>
       rw [addL_nil] at hw
       have := hz w hw
       omega
      | cons u us =>
       simp only [addL, List.mem_cons] at hw
       rcases hw with rfl | hw
       ·have h1 := hz z (by simp)
        have h2 := hu u (by simp)
        have := mul_bd (a := f) (b := u) (m := 100000000) (n := 100000000) (by omega) (by omega)
        omega
       ·exact ih us (fun a ha => hz a (by simp [ha])) (fun a ha => hu a (by simp [ha])) w hw
    intro w hw
    have := key Z ys hZs hys w (List.mem_of_mem_take hw)
    exact ⟨by omega, by omega⟩
   ·rintro r H3 ⟨h1, h2⟩
    rw [hZt ys (by omega), hZv] at h1
    have h3 : Mine H H.n r (digits (val xs + f * val ys)) H3 /\ H3.n <= H.n + 8 := ⟨h1, by omega⟩
    exact h3
theorem plus_run (hS : Old S) (h114 : S 114 = none) {H : Heap} {x y : AV} {f : Int} {xs ys : List Int} (hn : H.n + 20 < lim) (hx : Sl H x xs) (hy : Sl H y ys) (hxl : xs.length <= 1000000) (hyl : ys.length <= 1000000)
  (hxs : Sml xs) (hys : Sml ys) (hf : -100000000 <= f /\ f <= 100000000) : Cl (ctx.plus S) 114 [x, iv f, y] H fun r H' => Mine H H.n r (digits (val xs + f * val ys)) H' :=
 (plus_run2 S hS h114 hn hx hy hxl hyl hxs hys hf).mono fun _ _ h => h.1
end Go.PI

open Go.Proofs
namespace Go.PI
open IM
theorem fn116 : ctx.fn 116 = some c116 := by kernel_rfl
theorem fn179 : ctx.fn 179 = some c179 := by kernel_rfl
set_option maxRecDepth 10000
set_option maxHeartbeats 1000000
variable (S : FuncId -> Option (List AV -> Heap -> Option (AV × Heap)))
def negL (xs : List Int) : List Int := xs.map fun x => -x
theorem negL_snoc (xs : List Int) (x : Int) : negL (xs ++ [x]) = negL xs ++ [-x] := by simp [negL]
theorem negative_run2 (h127 : S 127 = none) {H : Heap} {x : AV} {xs : List Int} (hn : H.n + 4 < lim) (hx : Sl H x xs) (hl : xs.length <= 1000000) (hr : ∀ e ∈ xs, In64 (0 - e)) :
  Cl (ctx.plus S) 127 [x] H fun r H' => Mine H H.n r (negL xs) H' /\ H'.n <= H.n + 8 := by
 refine cl_of h127 fn127 ?_
 have hT : (ctx.plus S).ty = tget := rfl
 refine ⟨_, len_sl hT (v := x) rfl hx, ?_⟩
 refine ⟨by omega, ⟨by omega, by omega, by omega⟩, ?_⟩
 rw [show ((xs.length : Int)).toNat = xs.length by omega, show (List.replicate xs.length t3.zero.cells).flatten = ints (List.replicate xs.length 0) from ints_zeros _]
 have hp := Heap.get_push (H := H) (b := .cells true 3 (ints (List.replicate xs.length 0))) (by omega)
 have hpn : (H.push (.cells true 3 (ints (List.replicate xs.length 0)))).n = H.n + 1 := rfl
 generalize H.push (.cells true 3 (ints (List.replicate xs.length 0))) = H1 at hp hpn ⊢
 have hk1 : ∀ A, A < H.n -> H1.get A = H.get A := fun A hA => by rw [hp, if_neg (by omega)]
 have hb1 : H1.get H.n = .cells true 3 (ints (List.replicate xs.length 0)) := by rw [hp, if_pos rfl]
 refine ⟨_, len_sl hT (v := x) rfl hx, ?_⟩
 refine ⟨fun m s => ∃ (i : Nat) (n : Int) (H' : Heap) (j1 j2 j4 j5 j6 j7 j8 j12 j13 j14 j15 j16 j17 j18 j19 j20 j21 j22 : AV),
  s = ⟨[x, j1, j2, .sl H.n 0 xs.length xs.length, j4, j5, j6, j7, j8, x, iv xs.length, iv n, j12, j13, j14, j15, j16, j17, j18, j19, j20, j21, j22], H', []⟩ /\ m = xs.length - i /\ n = i /\ i <= xs.length /\ Upd H1 H.n (.cells true 3 (ints (negL (xs.take i) ++ List.replicate (xs.length - i) 0))) H', ⟨xs.length, ?_⟩, ?_⟩
 ·exact ⟨0, _, H1, _, _, _, _, _, _, _, _, _, _, _, _, _, _, _, _, _, _, rfl, rfl, rfl, Nat.zero_le _, Upd.refl (by simpa [negL] using hb1)⟩
 ·rintro m s ⟨i, n, H', j1, j2, j4, j5, j6, j7, j8, j12, j13, j14, j15, j16, j17, j18, j19, j20, j21, j22, rfl, hm, rfl, hi, hV⟩
  have hk : ∀ A, A < H.n -> H'.get A = H.get A := fun A hA => by rw [hV.other A (by omega)]; exact hk1 A hA
  have hn' : H'.n = H.n + 1 := by rw [hV.n]; exact hpn
  have hZl : (negL (xs.take i) ++ List.replicate (xs.length - i) 0).length = xs.length := by simp [negL]; omega
  have hOw : Ow H' (.sl H.n 0 xs.length xs.length) H.n (negL (xs.take i) ++ List.replicate (xs.length - i) 0) xs.length := ⟨hV.at_, by omega, .inl ⟨xs.length, rfl, by omega, by omega⟩⟩
  refine ⟨fun hlt => ?_, fun hge => ?_⟩
  ·obtain ⟨e, he⟩ : ∃ e, xs[i]? = some e := ⟨xs[i]'(by omega), List.getElem?_eq_getElem _⟩
   refine ⟨_, idx_sl hT (v := x) (n := i) rfl rfl (hx.mono hk) rfl (by omega), ?_⟩
   refine ⟨_, load_sl hT (hx.mono hk) he, ?_⟩
   refine ⟨hr e (List.mem_of_getElem? he), ?_⟩
   refine ⟨_, idx_sl hT (v := .sl H.n 0 xs.length xs.length) (n := i) rfl rfl hOw.sl rfl (by rw [List.take_of_length_le (by omega)]; omega), ?_⟩
   refine ⟨_, store_ow hT hOw (by omega), ?_⟩
   refine ⟨⟨by omega, by omega⟩, ?_⟩
   refine ⟨xs.length - (i + 1), by omega, i + 1, _, _, _, _, _, _, _, _, _, _, _, _, _, _, _, _, _, _, _, _, rfl, rfl, rfl, by omega, ?_⟩
   have hset : (negL (xs.take i) ++ List.replicate (xs.length - i) 0).set i (0 - e) = negL (xs.take (i + 1)) ++ List.replicate (xs.length - (i + 1)) 0 := by
    have hl1 : (negL (xs.take i)).length = i := by simp [negL]; omega
    rw [take_snoc he, negL_snoc, List.set_append_right _ _ (by omega), hl1, Nat.sub_self, show xs.length - i = (xs.length - (i + 1)) + 1 by omega, List.replicate_succ]
    simp
   rw [← hset]
   exact hV.trans (upd_set (by omega) (by omega))
  ·have hiy : i = xs.length := by omega
   subst hiy
   have hM : Mine H H.n (.sl H.n 0 xs.length xs.length) ((negL (xs.take xs.length) ++ List.replicate (xs.length - xs.length) 0).take xs.length) H' := Mine.fresh_refl (by omega) hk hOw (Nat.le_refl _)
   have e : (negL (xs.take xs.length) ++ List.replicate (xs.length - xs.length) 0).take xs.length = negL xs := by
    rw [List.take_of_length_le (by omega)]; simp
   rw [e] at hM
   have h3 : Mine H H.n (.sl H.n 0 xs.length xs.length) (negL xs) H' /\ H'.n <= H.n + 8 := ⟨hM, by omega⟩
   exact h3
theorem negative_run (h127 : S 127 = none) {H : Heap} {x : AV} {xs : List Int} (hn : H.n + 4 < lim) (hx : Sl H x xs) (hl : xs.length <= 1000000) (hr : ∀ e ∈ xs, In64 (0 - e)) :
  Cl (ctx.plus S) 127 [x] H fun r H' => Mine H H.n r (negL xs) H' :=
 (negative_run2 S h127 hn hx hl hr).mono fun _ _ h => h.1
theorem size_run2 (h186 : S 186 = none) (h125 : S 125 = none) (h127 : S 127 = none) {H : Heap} {x : AV} {xs : List Int} (hn : H.n + 4 < lim) (hx : Sl H x xs) (hl : xs.length <= 1000000) (hr : ∀ e ∈ xs, In64 (0 - e)) :
  Cl (ctx.plus S) 186 [x] H fun r H' => (if sgnL xs < 0 then Mine H H.n r (negL xs) H' else r = x /\ H = H') /\ H'.n <= H.n + 8 := by
 refine cl_of h186 fn186 ?_
 refine (sign_run S h125 (v := x) (by omega) hx).mono ?_
 rintro _ _ ⟨rfl, rfl⟩
 refine ⟨fun h0 => ?_, fun h0 => ?_⟩
 ·refine (negative_run2 S h127 hn hx hl hr).mono ?_
  rintro r H' ⟨hM, hM2⟩
  have h1 : (if sgnL xs < 0 then Mine H H.n r (negL xs) H' else r = x /\ H = H') /\ H'.n <= H.n + 8 := by rw [if_pos h0]; exact ⟨hM, hM2⟩
  exact h1
 ·have h1 : (if sgnL xs < 0 then Mine H H.n x (negL xs) H else x = x /\ H = H) /\ H.n <= H.n + 8 := by rw [if_neg (by omega)]; exact ⟨⟨rfl, rfl⟩, by omega⟩
  exact h1
theorem size_run (h186 : S 186 = none) (h125 : S 125 = none) (h127 : S 127 = none) {H : Heap} {x : AV} {xs : List Int} (hn : H.n + 4 < lim) (hx : Sl H x xs) (hl : xs.length <= 1000000) (hr : ∀ e ∈ xs, In64 (0 - e)) :
  Cl (ctx.plus S) 186 [x] H fun r H' => if sgnL xs < 0 then Mine H H.n r (negL xs) H' else r = x /\ H = H' :=
 (size_run2 S h186 h125 h127 hn hx hl hr).mono fun _ _ h => h.1
theorem isOne_run (h179 : S 179 = none) {H : Heap} {x : AV} {xs : List Int} (hx : Sl H x xs) : Cl (ctx.plus S) 179 [x] H fun r H' => r = .bool (decide (xs = [1])) /\ H = H' := by
 refine cl_of h179 fn179 ?_
 have hT : (ctx.plus S).ty = tget := rfl
 refine ⟨_, len_sl hT (v := x) rfl hx, ?_⟩
 refine ⟨fun h0 => ?_, fun h0 => ?_⟩
 ·obtain ⟨e, rfl⟩ : ∃ e, xs = [e] := List.length_eq_one_iff.1 (by omega)
  refine ⟨_, idx_sl hT (v := x) (n := 0) (k := 0) rfl rfl hx rfl (by simp), ?_⟩
  refine ⟨_, load_sl hT hx (k := 0) (x := e) rfl, ?_⟩
  refine ⟨fun h1 => ?_, fun h1 => ?_⟩
  ·exact ⟨by rw [h1]; rfl, rfl⟩
  ·exact ⟨by rw [decide_eq_false (by simpa using h1)], rfl⟩
 ·exact ⟨by rw [decide_eq_false (by intro e; subst e; exact h0 rfl)], rfl⟩
/-! ### slices.Clone, normal -/
theorem append_empty {C : Ctx} (hT : C.ty = tget) {H : Heap} {v : AV} {xs : List Int} (hn : H.n + 1 < lim) (h : Sl H v xs) (hl : xs.length <= 1000000) :
  ∃ r H', appendE C [22, 22] (.sl H.n 0 0 0) v (H.push (.cells true 3 [])) = some (r, H') /\ Mine H H.n r xs H' /\ H'.n <= H.n + 2 := by
 have hp := Heap.get_push (H := H) (b := .cells true 3 []) (by omega)
 have hpn : (H.push (.cells true 3 [])).n = H.n + 1 := rfl
 generalize H.push (.cells true 3 []) = H1 at hp hpn ⊢
 have hk1 : ∀ A, A < H.n -> H1.get A = H.get A := fun A hA => by rw [hp, if_neg (by omega)]
 have hb1 : H1.get H.n = .cells true 3 [] := by rw [hp, if_pos rfl]
 have h1 := h.mono hk1
 have hnlim : ¬ lim <= H1.n := by omega
 by_cases h0 : xs = []
 ·subst h0
  refine ⟨.sl H.n 0 0 0, H1.set H.n (.cells true 3 []), ?_, ⟨by show H.n <= H1.n; omega, fun A hA _ => ?_, H.n, [], ⟨?_, by simp, .inl ⟨0, rfl, by simp, by simp⟩⟩, rfl, .inl rfl⟩, by show H1.n <= H.n + 2; omega⟩
  ·simp only [appendE, ty22 hT, ty3 hT, t22, t3, srcOk, lenE_sl h1, cellsE_sl h1 (Nat.le_refl _), hb1, List.take_length, ones_ints]
   simp [hnlim, ints, splice]
  ·rw [Heap.get_set (by omega) (by omega), if_neg (by omega)]; exact hk1 A hA
  ·rw [Heap.get_set (by omega) (by omega), if_pos rfl]; rfl
 ·have hpos : 0 < xs.length := List.length_pos_iff.2 h0
  have hsn : (H1.push (.cells true 3 (ints xs))).n = H1.n + 1 := rfl
  refine ⟨.slu H1.n 0 xs.length 1, H1.push (.cells true 3 (ints xs)), ?_, ⟨by omega, fun A hA _ => ?_, H1.n, xs, ⟨?_, Nat.le_refl _, .inr rfl⟩, List.take_length, .inr (by omega)⟩, by omega⟩
  ·simp only [appendE, ty22 hT, ty3 hT, t22, t3, srcOk, lenE_sl h1, cellsE_sl h1 (Nat.le_refl _), hb1, List.take_length, ones_ints]
   simp [hnlim, h0]
   omega
  ·rw [Heap.get_push (by omega), if_neg (by omega)]; exact hk1 A hA
  ·rw [Heap.get_push (by omega), if_pos rfl]
theorem clone_run (h109 : S 109 = none) {H : Heap} {x : AV} {xs : List Int} (hn : H.n + 4 < lim) (hx : Sl H x xs) (hl : xs.length <= 1000000) :
  Cl (ctx.plus S) 109 [x] H fun r H' => (x = .nils /\ r = .nils /\ H = H') ∨ (x ≠ .nils /\ Mine H H.n r xs H' /\ H'.n <= H.n + 2) := by
 refine cl_of h109 fn109 ?_
 have hT : (ctx.plus S).ty = tget := rfl
 obtain ⟨r, H', hr1, hr2, hr3⟩ := append_empty hT (C := ctx.plus S) (by omega) hx hl
 have hx' := hx
 unfold Sl at hx'
 split at hx'
 ·exact .inl ⟨rfl, rfl, rfl⟩
 ·refine ⟨by omega, _, _, rfl, ?_⟩
  exact ⟨r, H', hr1, .inr ⟨by simp, hr2, hr3⟩⟩
 ·refine ⟨by omega, _, _, rfl, ?_⟩
  exact ⟨r, H', hr1, .inr ⟨by simp, hr2, hr3⟩⟩
 ·refine ⟨by omega, _, _, rfl, ?_⟩
  exact ⟨r, H', hr1, .inr ⟨by simp, hr2, hr3⟩⟩
 ·exact hx'.elim
theorem normal_run2 (hS : Old S) (h106 : S 106 = none) (h180 : S 180 = none) (h109 : S 109 = none) {H : Heap} {x : AV} {xs : List Int} (hn : H.n + 20 < lim) (hx : Sl H x xs) (hl : xs.length <= 1000000) (hr : ∀ e ∈ xs, In64 e) :
  Cl (ctx.plus S) 106 [x] H fun r H' => (if nrmB xs = true then r = x /\ H = H' else Mine H H.n r (digits (val xs)) H') /\ H'.n <= H.n + 8 := by
 refine cl_of h106 fn106 ?_
 refine (isNormal_run S h180 (v := x) (by omega) hx).mono ?_
 rintro _ _ ⟨rfl, rfl⟩
 cases hb : nrmB xs with
 | true =>
  have h1 : (if true = true then x = x /\ H = H else Mine H H.n x (digits (val xs)) H) /\ H.n <= H.n + 8 := by rw [if_pos rfl]; exact ⟨⟨rfl, rfl⟩, by omega⟩
  exact h1
 | false =>
  refine (clone_run S h109 (by omega) hx hl).mono ?_
  rintro r H1 (⟨rfl, -, -⟩ | ⟨-, hM, hn1⟩)
  ·have : xs = [] := hx
   subst this
   cases hb
  ·refine (settle_old S hS (by omega) (by omega) hM hr).mono ?_
   rintro r2 H2 ⟨hM2, hn2⟩
   have h1 : (if false = true then r2 = x /\ H = H2 else Mine H H.n r2 (digits (val xs)) H2) /\ H2.n <= H.n + 8 := by rw [if_neg (by simp)]; exact ⟨hM2, by omega⟩
   exact h1
theorem normal_run (hS : Old S) (h106 : S 106 = none) (h180 : S 180 = none) (h109 : S 109 = none) {H : Heap} {x : AV} {xs : List Int} (hn : H.n + 20 < lim) (hx : Sl H x xs) (hl : xs.length <= 1000000) (hr : ∀ e ∈ xs, In64 e) :
  Cl (ctx.plus S) 106 [x] H fun r H' => if nrmB xs = true then r = x /\ H = H' else Mine H H.n r (digits (val xs)) H' :=
 (normal_run2 S hS h106 h180 h109 hn hx hl hr).mono fun _ _ h => h.1
/-! ### products -/
theorem val_set : ∀ (zs : List Int) (k : Nat) (z w : Int), zs[k]? = some z -> val (zs.set k w) = val zs + pw k * (w - z)
 | [], k, z, w, h => by simp at h
 | a :: zs, 0, z, w, h => by
  simp at h; subst h
  simp only [List.set_cons_zero, val, pw]; omega
 | a :: zs, k + 1, z, w, h => by
  simp only [List.set_cons_succ, val, pw]
  rw [val_set zs k z w (by simpa using h), Int.mul_assoc]
  omega
theorem mul_bd2 {a b : Int} (ha : -100000000 < a /\ a < 100000000) (hb : -100000000 < b /\ b < 100000000) : -9999999800000001 <= a * b /\ a * b <= 9999999800000001 :=
 mul_bd (m := 99999999) (n := 99999999) (by omega) (by omega)
def Bd (zs : List Int) (i k : Nat) : Prop := ∀ j z, zs[j]? = some z -> (j < k -> -(9999999800000001 * ((i : Int) + 1)) <= z /\ z <= 9999999800000001 * ((i : Int) + 1)) /\ (k <= j -> -(9999999800000001 * (i : Int)) <= z /\ z <= 9999999800000001 * (i : Int))
theorem product_run2 (hS : Old S) (h116 : S 116 = none) {H : Heap} {x y : AV} {xs ys : List Int} (hn : H.n + 20 < lim) (hx : Sl H x xs) (hy : Sl H y ys) (hxl : xs.length <= 511) (hyl : ys.length <= 1000000)
  (hxs : Sml xs) (hys : Sml ys) : Cl (ctx.plus S) 116 [x, y] H fun r H' => (if xs = [] ∨ ys = [] then r = .nils /\ H = H' else Mine H H.n r (digits (val xs * val ys)) H') /\ H'.n <= H.n + 8 := by
 refine cl_of h116 fn116 ?_
 have hT : (ctx.plus S).ty = tget := rfl
 refine ⟨_, len_sl hT (v := x) rfl hx, ?_⟩
 refine ⟨fun h0 => ?_, fun h0 => ?_⟩
 ·have h1 : (if xs = [] ∨ ys = [] then AV.nils = .nils /\ H = H else Mine H H.n .nils (digits (val xs * val ys)) H) /\ H.n <= H.n + 8 := by
   rw [if_pos (.inl (List.eq_nil_of_length_eq_zero (by omega)))]; exact ⟨⟨rfl, rfl⟩, by omega⟩
  exact h1
 refine ⟨_, len_sl hT (v := y) rfl hy, ?_⟩
 refine ⟨fun h2 => ?_, fun h2 => ?_⟩
 ·have h1 : (if xs = [] ∨ ys = [] then AV.nils = .nils /\ H = H else Mine H H.n .nils (digits (val xs * val ys)) H) /\ H.n <= H.n + 8 := by
   rw [if_pos (.inr (List.eq_nil_of_length_eq_zero (by omega)))]; exact ⟨⟨rfl, rfl⟩, by omega⟩
  exact h1
 have hne : ¬ (xs = [] ∨ ys = []) := by
  rintro (rfl | rfl)
  ·exact h0 rfl
  ·exact h2 rfl
 simp only [if_neg hne]
 refine ⟨_, len_sl hT (v := x) rfl hx, ?_⟩
 refine ⟨_, len_sl hT (v := y) rfl hy, ?_⟩
 refine ⟨⟨by omega, by omega⟩, ?_⟩
 obtain ⟨N, hN⟩ : ∃ N, N = xs.length + ys.length := ⟨_, rfl⟩
 rw [show (xs.length : Int) + (ys.length : Int) = (N : Int) by omega]
 refine ⟨by omega, ⟨by omega, by omega, by omega⟩, ?_⟩
 rw [show ((N : Int)).toNat = N by omega, show (List.replicate N t3.zero.cells).flatten = ints (List.replicate N 0) from ints_zeros _]
 have hp := Heap.get_push (H := H) (b := .cells true 3 (ints (List.replicate N 0))) (by omega)
 have hpn : (H.push (.cells true 3 (ints (List.replicate N 0)))).n = H.n + 1 := rfl
 generalize H.push (.cells true 3 (ints (List.replicate N 0))) = H1 at hp hpn ⊢
 have hk1 : ∀ A, A < H.n -> H1.get A = H.get A := fun A hA => by rw [hp, if_neg (by omega)]
 have hb1 : H1.get H.n = .cells true 3 (ints (List.replicate N 0)) := by rw [hp, if_pos rfl]
 refine ⟨_, len_sl hT (v := x) rfl hx, ?_⟩
 refine ⟨fun m s => ∃ (i : Nat) (n : Int) (H' : Heap) (Z : List Int) (j2 j3 j4 j6 j7 j8 j9 j10 j11 j12 j13 j14 j15 j16 j17 j18 j19 j20 j21 j22 j23 j27 j28 j29 j30 j31 j32 j33 j34 j35 j36 j37 j38 j39 j40 j41 j42 j43 j44 j45 j46 j47 j48 j49 j50 j51 j52 j53 j54 j55 j56 j57 : AV),
  s = ⟨[x, y, j2, j3, j4, .sl H.n 0 N N, j6, j7, j8, j9, j10, j11, j12, j13, j14, j15, j16, j17, j18, j19, j20, j21, j22, j23, x, iv xs.length, iv n, j27, j28, j29, j30, j31, j32, j33, j34, j35, j36, j37, j38, j39, j40, j41, j42, j43, j44, j45, j46, j47, j48, j49, j50, j51, j52, j53, j54, j55, j56, j57], H', []⟩ /\ m = xs.length - i /\ n = i /\ i <= xs.length /\ Z.length = N /\ Bd Z i 0 /\ val Z = val (xs.take i) * val ys /\ Upd H1 H.n (.cells true 3 (ints Z)) H', ⟨xs.length, ?_⟩, ?_⟩
 ·refine ⟨0, _, H1, List.replicate N 0, _, _, _, _, _, _, _, _, _, _, _, _, _, _, _, _, _, _, _, _, _, _, _, _, _, _, _, _, _, _, _, _, _, _, _, _, _, _, _, _, _, _, _, _, _, _, _, _, _, _, _, _, rfl, rfl, rfl, Nat.zero_le _, by simp, ?_, by simp [val, val_zeros], Upd.refl hb1⟩
  intro j z hz
  have := (List.mem_replicate.1 (List.mem_of_getElem? hz)).2
  omega
 ·rintro m s ⟨i, n, H', Z, j2, j3, j4, j6, j7, j8, j9, j10, j11, j12, j13, j14, j15, j16, j17, j18, j19, j20, j21, j22, j23, j27, j28, j29, j30, j31, j32, j33, j34, j35, j36, j37, j38, j39, j40, j41, j42, j43, j44, j45, j46, j47, j48, j49, j50, j51, j52, j53, j54, j55, j56, j57, rfl, hm, rfl, hi, hZl, hZb, hZv, hV⟩
  have hk : ∀ A, A < H.n -> H'.get A = H.get A := fun A hA => by rw [hV.other A (by omega)]; exact hk1 A hA
  have hn' : H'.n = H.n + 1 := by rw [hV.n]; exact hpn
  refine ⟨fun hlt => ?_, fun hge => ?_⟩
  ·obtain ⟨a, ha⟩ : ∃ e, xs[i]? = some e := ⟨xs[i]'(by omega), List.getElem?_eq_getElem _⟩
   have haB := hxs a (List.mem_of_getElem? ha)
   refine ⟨_, idx_sl hT (v := x) (n := i) rfl rfl (hx.mono hk) rfl (by omega), ?_⟩
   refine ⟨_, load_sl hT (hx.mono hk) ha, ?_⟩
   refine ⟨_, len_sl hT (v := y) rfl hy, ?_⟩
   refine ⟨fun m s => ∃ (j : Nat) (n : Int) (H' : Heap) (Z : List Int) (j2 j3 j4 j8 j9 j10 j11 j12 j13 j14 j15 j16 j17 j18 j19 j20 j21 j22 j23 j27 j28 j29 j30 j34 j35 j36 j37 j38 j39 j40 j41 j42 j43 j44 j45 j46 j47 j48 j49 j50 j51 j52 j53 j54 j55 j56 j57 : AV),
    s = ⟨[x, y, j2, j3, j4, .sl H.n 0 N N, iv i, iv a, j8, j9, j10, j11, j12, j13, j14, j15, j16, j17, j18, j19, j20, j21, j22, j23, x, iv xs.length, iv i, j27, j28, j29, j30, y, iv ys.length, iv n, j34, j35, j36, j37, j38, j39, j40, j41, j42, j43, j44, j45, j46, j47, j48, j49, j50, j51, j52, j53, j54, j55, j56, j57], H', []⟩ /\ m = ys.length - j /\ n = j /\ j <= ys.length /\ Z.length = N /\ Bd Z i (i + j) /\ val Z = val (xs.take i) * val ys + pw i * (a * val (ys.take j)) /\ Upd H1 H.n (.cells true 3 (ints Z)) H', ⟨ys.length, ?_⟩, ?_⟩
   ·refine ⟨0, _, H', Z, _, _, _, _, _, _, _, _, _, _, _, _, _, _, _, _, _, _, _, _, _, _, _, _, _, _, _, _, _, _, _, _, _, _, _, _, _, _, _, _, _, _, _, _, _, _, _, rfl, rfl, rfl, Nat.zero_le _, hZl, ?_, by simp [val, hZv], hV⟩
    intro j z hz
    have := (hZb j z hz).2 (Nat.zero_le _)
    omega
   ·clear hk hn' hV hZv hZb hZl Z H'
    rintro m2 s ⟨j, n, H', Z, j2, j3, j4, j8, j9, j10, j11, j12, j13, j14, j15, j16, j17, j18, j19, j20, j21, j22, j23, j27, j28, j29, j30, j34, j35, j36, j37, j38, j39, j40, j41, j42, j43, j44, j45, j46, j47, j48, j49, j50, j51, j52, j53, j54, j55, j56, j57, rfl, hm2, rfl, hj, hZl, hZb, hZv, hV⟩
    have hk : ∀ A, A < H.n -> H'.get A = H.get A := fun A hA => by rw [hV.other A (by omega)]; exact hk1 A hA
    have hn' : H'.n = H.n + 1 := by rw [hV.n]; exact hpn
    have hOw : Ow H' (.sl H.n 0 N N) H.n Z N := ⟨hV.at_, by omega, .inl ⟨N, rfl, by omega, by omega⟩⟩
    have htl : Z.take N = Z := List.take_of_length_le (by omega)
    have hsl := hOw.sl
    rw [htl] at hsl
    refine ⟨fun hlt2 => ?_, fun hge => ?_⟩
    ·obtain ⟨b, hb⟩ : ∃ e, ys[j]? = some e := ⟨ys[j]'(by omega), List.getElem?_eq_getElem _⟩
     obtain ⟨z, hz⟩ : ∃ e, Z[i + j]? = some e := ⟨Z[i + j]'(by omega), List.getElem?_eq_getElem _⟩
     have hbB := hys b (List.mem_of_getElem? hb)
     have hzB := (hZb (i + j) z hz).2 (Nat.le_refl _)
     have hab := mul_bd2 haB hbB
     refine ⟨_, idx_sl hT (v := y) (n := j) rfl rfl (hy.mono hk) rfl (by omega), ?_⟩
     refine ⟨_, load_sl hT (hy.mono hk) hb, ?_⟩
     refine ⟨⟨by omega, by omega⟩, ?_⟩
     refine ⟨_, idx_sl hT (v := .sl H.n 0 N N) (n := (i : Int) + (j : Int)) (k := i + j) rfl rfl hsl rfl (by omega), ?_⟩
     refine ⟨_, load_sl hT hsl hz, ?_⟩
     refine ⟨⟨by omega, by omega⟩, ?_⟩
     refine ⟨⟨by omega, by omega⟩, ?_⟩
     refine ⟨_, idx_sl hT (v := .sl H.n 0 N N) (n := (i : Int) + (j : Int)) (k := i + j) rfl rfl hsl rfl (by omega), ?_⟩
     refine ⟨_, store_ow hT hOw (by omega), ?_⟩
     refine ⟨⟨by omega, by omega⟩, ?_⟩
     refine ⟨ys.length - (j + 1), by omega, j + 1, _, _, Z.set (i + j) (z + a * b), _, _, _, _, _, _, _, _, _, _, _, _, _, _, _, _, _, _, _, _, _, _, _, _, _, _, _, _, _, _, _, _, _, _, _, _, _, _, _, _, _, _, _, _, _, _, _, rfl, rfl, rfl, by omega, by simp [hZl], ?_, ?_, hV.trans (upd_set (by omega) (by omega))⟩
     ·intro k w hw
      by_cases hkk : i + j = k
      ·subst hkk
       rw [List.getElem?_set_self (by omega)] at hw
       cases hw
       omega
      ·rw [List.getElem?_set_ne hkk] at hw
       have := hZb k w hw
       omega
     ·have hvj : val (ys.take (j + 1)) = val (ys.take j) + pw j * b := by
       rw [take_snoc hb, val_append, List.length_take, Nat.min_eq_left (by omega)]; simp [val]
      rw [val_set Z _ z _ hz, hZv, hvj, pw_add, show z + a * b - z = a * b by omega, Int.mul_add, Int.mul_add, Int.add_assoc]
      congr 2
      rw [Int.mul_assoc, Int.mul_left_comm a (pw j) b]
    ·have hjy : j = ys.length := by omega
     subst hjy
     rw [List.take_length] at hZv
     have hmod : (i : Int).tmod 512 = (i : Int) := by rw [Int.tmod_eq_emod_of_nonneg (by omega)]; omega
     refine ⟨by decide, ?_⟩
     refine ⟨fun h511 => ?_, fun _ => ?_⟩
     ·rw [hmod] at h511; exact absurd h511 (by omega)
     ·refine ⟨⟨by omega, by omega⟩, ?_⟩
      refine ⟨xs.length - (i + 1), by omega, i + 1, _, _, Z, _, _, _, _, _, _, _, _, _, _, _, _, _, _, _, _, _, _, _, _, _, _, _, _, _, _, _, _, _, _, _, _, _, _, _, _, _, _, _, _, _, _, _, _, _, _, _, _, _, _, _, _, rfl, rfl, rfl, by omega, hZl, ?_, ?_, hV⟩
      ·intro k w hw
       have := hZb k w hw
       omega
      ·have hvi : val (xs.take (i + 1)) = val (xs.take i) + pw i * a := by
        rw [take_snoc ha, val_append, List.length_take, Nat.min_eq_left (by omega)]; simp [val]
       rw [hZv, hvi, Int.add_mul, Int.mul_assoc]
  ·have hiy : i = xs.length := by omega
   subst hiy
   rw [List.take_length] at hZv
   have hOw : Ow H' (.sl H.n 0 N N) H.n Z N := ⟨hV.at_, by omega, .inl ⟨N, rfl, by omega, by omega⟩⟩
   have htl : Z.take N = Z := List.take_of_length_le (by omega)
   have hM : Mine H H.n (.sl H.n 0 N N) (Z.take N) H' := Mine.fresh_refl (by omega) hk hOw (Nat.le_refl _)
   rw [htl] at hM
   refine (settle_old S hS (by omega) (by omega) hM ?_).mono ?_
   ·intro w hw
    obtain ⟨k, hk⟩ := List.getElem?_of_mem hw
    have := (hZb k w hk).2 (Nat.zero_le _)
    exact ⟨by omega, by omega⟩
   ·rintro r H3 ⟨h1, h2⟩
    rw [hZv] at h1
    have h3 : Mine H H.n r (digits (val xs * val ys)) H3 /\ H3.n <= H.n + 8 := ⟨h1, by omega⟩
    exact h3
theorem product_run (hS : Old S) (h116 : S 116 = none) {H : Heap} {x y : AV} {xs ys : List Int} (hn : H.n + 20 < lim) (hx : Sl H x xs) (hy : Sl H y ys) (hxl : xs.length <= 511) (hyl : ys.length <= 1000000)
  (hxs : Sml xs) (hys : Sml ys) : Cl (ctx.plus S) 116 [x, y] H fun r H' => if xs = [] ∨ ys = [] then r = .nils /\ H = H' else Mine H H.n r (digits (val xs * val ys)) H' :=
 (product_run2 S hS h116 hn hx hy hxl hyl hxs hys).mono fun _ _ h => h.1
end Go.PI

