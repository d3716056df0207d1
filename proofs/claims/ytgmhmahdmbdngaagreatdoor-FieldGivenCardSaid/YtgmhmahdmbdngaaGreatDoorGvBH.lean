/- Own work of the verifier: PiSA PvGt PvSmf PvGiv PvGvc PvRatQ PvRtr PvRsz PvQuot PiMix. -/
import Derived.Test.YtgmhmahdmbdngaaGreatDoorGvAT
import Derived.Test.YtgmhmahdmbdngaaGreatDoorGvBD
import Derived.Test.YtgmhmahdmbdngaaGreatDoorGvBE
import Derived.Test.YtgmhmahdmbdngaaGreatDoorGvBF
import Derived.Test.YtgmhmahdmbdngaaGreatDoorGvBG
import Derived.Lib.SmallJoins
import Derived.ChangeSlices
import Derived.Test.YtgmhmahdmbdngaaGreatDoorGvAX
import Derived.Test.YtgmhmahdmbdngaaGreatDoorGvAZ
import Derived.Test.YtgmhmahdmbdngaaGreatDoorGvAY
import Derived.Test.YtgmhmahdmbdngaaGreatDoorGvAW
set_option linter.all false
set_option linter.deprecated false
open Go.Proofs
namespace Go.PI
open IM
open Go.ChangeShapes Go.WideShapes Go.ChangeAt Go.RowKit
set_option maxRecDepth 10000
set_option maxHeartbeats 4000000
theorem fn23 : ctx.fn 23 = some c23 := by kernel_rfl
section
variable (S : FuncId -> Option (List AV -> Heap -> Option (AV × Heap)))
theorem ex26 (T : List AV) (h : T.length = 26) : T = [T.getD 0 undefA, T.getD 1 undefA, T.getD 2 undefA, T.getD 3 undefA, T.getD 4 undefA, T.getD 5 undefA, T.getD 6 undefA, T.getD 7 undefA, T.getD 8 undefA, T.getD 9 undefA, T.getD 10 undefA, T.getD 11 undefA, T.getD 12 undefA, T.getD 13 undefA, T.getD 14 undefA, T.getD 15 undefA, T.getD 16 undefA, T.getD 17 undefA, T.getD 18 undefA, T.getD 19 undefA, T.getD 20 undefA, T.getD 21 undefA, T.getD 22 undefA, T.getD 23 undefA, T.getD 24 undefA, T.getD 25 undefA] := by
 have := expand T
 rw [h] at this
 exact this
theorem ints_true (h23 : S 23 = none) {H : Heap} {x y : AV} {xs : List Int} (hx : Sl H x xs) (hy : Sl H y xs) (hl : xs.length <= 1000000) :
  Cl (ctx.plus S) 23 [x, y] H fun r H' => r = .bool true /\ H = H' := by
 refine cl_of h23 fn23 ?_
 have hT : (ctx.plus S).ty = tget := rfl
 refine ⟨_, len_sl hT (v := x) rfl hx, ?_⟩
 refine ⟨_, len_sl hT (v := y) rfl hy, ?_⟩
 refine ⟨fun h => absurd rfl h, fun _ => ?_⟩
 refine ⟨fun m s => ∃ (i : Nat) (n : Int) (T : List AV), s = ⟨T, H, []⟩ /\ T.length = 26 /\ T.getD 0 undefA = x /\ T.getD 1 undefA = y /\ T.getD 5 undefA = iv n /\ m = xs.length - i /\ n = i /\ i <= xs.length, ⟨xs.length, ?_⟩, ?_⟩
 ·exact ⟨0, _, _, rfl, rfl, rfl, rfl, rfl, rfl, rfl, Nat.zero_le _⟩
 ·rintro m s ⟨i, n, T, rfl, hTl, h0t, h1t, h5t, hm, rfl, hi⟩
  obtain ⟨J, rfl⟩ : ∃ J : Nat -> AV, T = [x, y, J 2, J 3, J 4, iv i, J 6, J 7, J 8, J 9, J 10, J 11, J 12, J 13, J 14, J 15, J 16, J 17, J 18, J 19, J 20, J 21, J 22, J 23, J 24, J 25] := ⟨fun i => T.getD i undefA, (ex26 T hTl).trans (by rw [h0t, h1t, h5t])⟩
  clear hTl h0t h1t h5t
  refine ⟨_, len_sl hT (v := x) rfl hx, ?_⟩
  refine ⟨fun hlt => ?_, fun hge => ?_⟩
  ·obtain ⟨e, he⟩ : ∃ e, xs[i]? = some e := ⟨xs[i]'(by omega), List.getElem?_eq_getElem _⟩
   have hne : xs ≠ [] := by intro h; subst h; simp at he
   obtain ⟨bx, ox, hbx, hax⟩ := hx.addr hne
   obtain ⟨b2, o2, hb2, ha2⟩ := hy.addr hne
   have lx : loadE (ctx.plus S) 3 (addr x i) H = some (iv e) := load_sl hT hx he
   have ly : loadE (ctx.plus S) 3 (addr y i) H = some (iv e) := load_sl hT hy he
   have lx' : loadE (ctx.plus S) 3 (.ptr bx (ox + i)) H = some (iv e) := by rw [← hax]; exact lx
   have ly' : loadE (ctx.plus S) 3 (.ptr b2 (o2 + i)) H = some (iv e) := by rw [← ha2]; exact ly
   have si : ∀ n : Int, (iv n).same (iv n) = true := fun n => by simp [AV.same, AV.sames]
   refine ⟨_, idx_sl hT (v := x) (n := (i : Int)) (k := i) rfl rfl hx rfl (by omega), ?_⟩
   refine ⟨_, lx, ?_⟩
   refine ⟨_, idx_sl hT (v := y) (n := (i : Int)) (k := i) rfl rfl hy rfl (by omega), ?_⟩
   refine ⟨_, ly, ?_⟩
   refine ⟨fun h => absurd rfl h, fun _ => ?_⟩
   refine ⟨draw_of2 H 9 (by kernel_rfl) rfl ?_ ?_ ?_, ?_⟩
   ·exact ⟨trivial, trivial, trivial, ⟨_, _, _, congrArg some (hax _), hbx, lx', si _⟩, trivial, trivial, trivial, ⟨_, _, _, congrArg some (ha2 _), hb2, ly', si _⟩, trivial, trivial⟩
   ·repeat' (first | exact trivial | refine ⟨fun _ _ => rfl, ?_⟩)
   ·repeat' (first | exact trivial | refine ⟨Nat.le_refl _, ?_⟩)
   refine ⟨⟨by omega, by omega⟩, ?_⟩
   exact ⟨xs.length - (i + 1), by omega, i + 1, _, _, rfl, rfl, rfl, rfl, rfl, rfl, rfl, by omega⟩
  ·exact ⟨rfl, rfl⟩
end
section
variable {C : Ctx} (hT : C.ty = tget)
include hT
theorem len_any {ρ : Operand -> Option AV} {x : Operand} {v : AV} {n : Nat} {t e : TypeId} {i : TI} (ht : C.ty t = some i) (hd : i.desc = .slice e) (hx : ρ x = some v) (h : slen v = some n) :
  pureE C ρ (.call { callee := .builtin .len, args := #[x], argTypes := #[t] }) = some (iv n) := by
 obtain ⟨d, a, b, c⟩ := i
 simp only at hd
 subst hd
 simp only [pureE, opds, hx, builtinP, ht]
 cases v <;> simp only [slen] at h <;> first | (cases h; done) | (cases h; rfl)
end
def SA : FuncId -> Option (List AV -> Heap -> Option (AV × Heap)) := fun f => if f = 20 then some sTrue else none
noncomputable def ctxA : Ctx := ctx.plus SA
theorem oldA : OldI SA := ⟨⟨rfl, rfl, rfl, rfl, rfl⟩, rfl, rfl, rfl, rfl, rfl, rfl, rfl, rfl, rfl, rfl, rfl, rfl, rfl, rfl, rfl, rfl, rfl, rfl, rfl, rfl, rfl, rfl, rfl, rfl⟩
theorem ctxA_fine : Ctx.Ok Tryz.prog ctxA := by
 obtain ⟨H, h⟩ := isTrue_some run20
 refine Ctx.plus_ok2 (C := ctx) ctx_ok (T := SA) fun f s hf => ?_
 unfold SA at hf
 split at hf
 ·rename_i he
  subst he
  cases hf
  exact .inr (closed_true ctx1_ok (quick_sim h))
 ·cases hf
theorem nc3' : Tryz.prog.cellsOf 3 = 1 := by kernel_rfl
theorem cp_of {μ : M} {v : AV} {A : Option Addr} {L C : Nat} (h : VR μ v (.slice A L C)) (hLC : L <= C) : Cp v := by
 cases h <;> first | exact hLC | trivial
theorem imp_ints {H : Type} {enc : TypeId × Value -> H} {W : World} {μ : M} {Hp : Heap} (h : Imp W μ Hp) (hn : Hp.n + 2 < lim) {fuel : Nat} {v : Value} {y : DataW H × List MemPlace}
  (h1 : DataW.trod enc Tryz.prog W 0 (fun _ => true) true fuel 22 [v] = some y) :
  ∃ (μ' : M) (H' : Heap) (b : AV) (xs : List Int), Imp W μ' H' /\ M.le μ μ' /\ (∀ B, B < Hp.n -> H'.get B = Hp.get B) /\ Hp.n <= H'.n /\ H'.n <= Hp.n + 1 /\ VR μ' b v /\ Seen H' b xs /\ Cp b /\ xs.length <= 9223372036854775807 /\ ∀ e ∈ xs, In64 e := by
 have hm : maxLen = 9223372036854775807 := rfl
 rcases open_ints Tryz.underlying22 Tryz.underlying3 nc3' h1 with ⟨hcs, -⟩ | ⟨a, len, cap, zs, hcs, -, hl, hc, hz, -, hcell, hwf⟩
 ·obtain rfl : v = .slice none 0 0 := by simpa using hcs
  exact ⟨μ, Hp, .nils, [], h, M.le.refl _, fun _ _ => rfl, Nat.le_refl _, by omega, .nils, ⟨rfl, fun _ => rfl⟩, trivial, by simp, fun e he => (List.not_mem_nil he).elim⟩
 ·obtain rfl : v = .slice (some a) len cap := by simpa using hcs
  simp only [if_true] at hz
  obtain ⟨μ', H', v', g1, g2, g3, g4, g5, g6, g7⟩ := imp_slice (A := some a) (L := len) (C := cap) (Z := zs) h (by omega) hl (by omega) (fun e => by cases e) (fun a' ha' c hcl => by
   cases ha'
   exact hcell c (by omega))
  refine ⟨μ', H', v', _, g1, g2, g3, g4, g5, g6, g7, cp_of g6 hl, by simp; omega, fun e he => ?_⟩
  have := hwf e (List.mem_of_mem_take he)
  simp only [Lit.wf, Bool.and_eq_true, decide_eq_true_eq] at this
  have e1 : IntKind.min .i64 = -9223372036854775808 := by decide
  have e2 : IntKind.max .i64 = 9223372036854775807 := by decide
  rw [e1, e2] at this
  unfold In64
  omega
end Go.PI

namespace Go.PI
structure Hid (p : Prop) : Prop where
 h : p
def exL (f : Nat -> PV) : Nat -> Nat -> List PV
 | 0, _ => []
 | n + 1, i => f i :: exL f n (i + 1)
def asg : List (Nat × PV) -> (Nat -> PV) -> Nat -> PV
 | [], J, i => J i
 | (k, v) :: l, J, i => match Nat.beq k i with
  | true => v
  | false => asg l J i
def AllG (T : List PV) : List (Nat × PV) -> Prop
 | [] => True
 | (k, v) :: l => T.getD k undefP = v /\ AllG T l
def Gt (T : List PV) (n : Nat) (l : List (Nat × PV)) : Prop := T.length = n /\ AllG T l
theorem exL_get (f : Nat -> PV) : ∀ (n i j : Nat), j < n -> (exL f n i)[j]? = some (f (i + j))
 | 0, _, _, h => by omega
 | n + 1, i, 0, _ => rfl
 | n + 1, i, j + 1, h => by
  show (exL f n (i + 1))[j]? = _
  rw [exL_get f n (i + 1) j (by omega)]
  congr 2
  omega
theorem exL_len (f : Nat -> PV) : ∀ (n i : Nat), (exL f n i).length = n
 | 0, _ => rfl
 | n + 1, i => by show (exL f n (i + 1)).length + 1 = _; rw [exL_len f n]
theorem asg_is {T : List PV} : ∀ {l : List (Nat × PV)}, AllG T l -> ∀ i, asg l (fun i => T.getD i undefP) i = T.getD i undefP
 | [], _, i => rfl
 | (k, v) :: l, h, i => by
  show (match Nat.beq k i with | true => v | false => asg l _ i) = _
  split
  ·rename_i hk
   have := Nat.eq_of_beq_eq_true hk
   subst this
   exact h.1.symm
  ·exact asg_is h.2 i
theorem gt_open {T : List PV} {n : Nat} {l : List (Nat × PV)} (h : Gt T n l) : ∃ J, T = exL (asg l J) n 0 := by
 refine ⟨fun i => T.getD i undefP, List.ext_getElem? fun i => ?_⟩
 by_cases hi : i < n
 ·rw [exL_get _ _ _ _ hi, asg_is h.2, Nat.zero_add]
  have : i < T.length := by rw [h.1]; exact hi
  simp [List.getD, this]
 ·rw [List.getElem?_eq_none (by rw [h.1]; omega), List.getElem?_eq_none (by rw [exL_len]; omega)]
variable {C : Ctx} {c k d : Nat} {σ σ1 : List StB} {g : FuncId} {K : PV -> List StB -> Nat -> Prop}
theorem callm {ps : List PV} {Q : PV -> List StB -> Prop} (h : Cm C g ps σ d Q) (hk : k + d <= c) (hK : ∀ r σ', Q r σ' -> K r σ' (k + d)) : ArgK false C c k σ g ps K :=
 ⟨.inr (.inr ⟨rfl, [], .inr ⟨[], by cases ps <;> exact ⟨d, Q, hk, h, hK⟩⟩⟩)⟩
theorem callms (ms : List Bool) {ps : List PV} (h : frzmK σ ms ps fun ps' σ2 => ∃ d Q, k + d <= c /\ Cm C g ps' σ2 d Q /\ ∀ r σ', Q r σ' -> K r σ' (k + d)) : ArgK false C c k σ g ps K :=
 ⟨.inr (.inr ⟨rfl, [], .inr ⟨ms, h⟩⟩)⟩
theorem endm (ms : List Bool) {m : Nat} {vs : List PV} {Q : PV -> List StB -> Prop} (hk : k <= m) (h : frzmK σ ms vs fun vs' σ2 => Q (oneP vs') σ2) : EndMK σ k m vs Q := ⟨⟨[], hk, ms, h⟩⟩
section
variable {σ2 σ3 σ4 : List StB}
theorem part3 {σ σ1 σ2 σ3 : List StB} {u v w p q r : PV} {i j l : Nat} {K : List (Nat × PV) -> List StB -> Prop} (h1 : Fz u σ p σ1) (h2 : Fz v σ1 q σ2) (h3 : Fz w σ2 r σ3) (hK : K [(i, p), (j, q), (l, r)] σ3) : PartK σ [(i, u), (j, v), (l, w)] K := ⟨h1 _ (h2 _ (h3 _ hK))⟩
end
section
theorem part4 {σ σ1 σ2 σ3 σ4 : List StB} {u v w x p q r t : PV} {i j l m : Nat} {K : List (Nat × PV) -> List StB -> Prop} (h1 : Fz u σ p σ1) (h2 : Fz v σ1 q σ2) (h3 : Fz w σ2 r σ3) (h4 : Fz x σ3 t σ4) (hK : K [(i, p), (j, q), (l, r), (m, t)] σ4) : PartK σ [(i, u), (j, v), (l, w), (m, x)] K := ⟨h1 _ (h2 _ (h3 _ (h4 _ hK)))⟩
theorem load_k {S : FuncId -> Option (List AV -> Heap -> Option (AV × Heap))} {σ : List StB} {j o q : Nat} {t t' : TypeId} {i : TI} {cs : List PV} {v : PV} (hi : (ctx.plus S).ty t = some i) (hd : (match i.desc with | .struct _ | .array _ _ => false | _ => true) = true) (hc : contOf σ j = some (t', cs)) (hv : cs[q]? = some v) (ho : o = q) : ploadE (ctx.plus S) σ t (.optr j o) = some v := by
 subst ho
 unfold ploadE
 rw [hi]
 simp only [hc]
 unfold partP
 split
 ·rename_i h; rw [h] at hd; cases hd
 ·rename_i h; rw [h] at hd; cases hd
 ·exact hv
end
end Go.PI

open Go.Proofs
namespace Go.PI
open IM
set_option maxRecDepth 10000
set_option maxHeartbeats 4000000
variable (S : FuncId -> Option (List AV -> Heap -> Option (AV × Heap)))
theorem rwithin_ct (h : S 131 = none) {n a b : Int} : Ct (ctx.plus S) 131 [pn n, pn a, pn b] 0 fun r => ((a <= n /\ n <= b) /\ r = .bool true) ∨ (¬ (a <= n /\ n <= b) /\ r = .bool false) := by
 intro H W avs hw hr hl
 cases hr with
 | cons h1 hr => cases hr with
  | cons h2 hr => cases hr with
   | cons h3 hr =>
    cases hr
    cases h1
    cases h2
    cases h3
    refine (rwithin_run S h).mono ?_
    rintro _ _ ⟨rfl, rfl⟩
    by_cases hc : a <= n /\ n <= b
    ·rw [decide_eq_true hc]; exact ⟨_, .inl ⟨hc, rfl⟩, .bool _, KpH.refl _ _⟩
    ·rw [decide_eq_false hc]; exact ⟨_, .inr ⟨hc, rfl⟩, .bool _, KpH.refl _ _⟩
theorem ints_ct (h23 : S 23 = none) {xs : List Int} (hl : xs.length <= 1000000) : Ct (ctx.plus S) 23 [pIs xs, pIs xs] 1 fun r => r = .bool true := by
 intro H W avs hw hr hn
 cases hr with
 | cons h1 hr => cases hr with
  | cons h2 hr =>
   cases hr
   refine (ints_true S h23 (sl_rel h1).1 (sl_rel h2).1 hl).mono ?_
   rintro r H' ⟨rfl, rfl⟩
   exact ⟨_, rfl, .bool _, KpH.refl _ _⟩
theorem fn46 : ctx.fn 46 = some c46 := by kernel_rfl
theorem same_ct (h46 : S 46 = none) (h23 : S 23 = none) {P : List Int} {lo hi den : Int} (hl : P.length <= 8) : Ct (ctx.plus S) 46 [pF P lo hi den, pF P lo hi den] 100 fun r => r = .bool true := by
 refine ct_of h46 fn46 ?_
 refine ⟨by omega, by omega, ?_⟩
 refine ⟨_, rfl, ?_⟩
 refine ⟨_, rfl, ?_⟩
 refine callq rfl (ints_ct S h23 (xs := P) (by omega)) (by omega) ?_
 rintro _ rfl
 refine ⟨_, rfl, ?_⟩
 refine ⟨_, rfl, ?_⟩
 refine ⟨fun _ => ?_, fun h => absurd rfl h⟩
 refine ⟨_, rfl, ?_⟩
 refine ⟨_, rfl, ?_⟩
 refine ⟨fun _ => ?_, fun h => absurd rfl h⟩
 refine ⟨_, rfl, ?_⟩
 refine ⟨_, rfl, ?_⟩
 refine ⟨fun _ => ?_, fun h => absurd rfl h⟩
 exact endq rfl rfl
end Go.PI

open Go.Proofs
namespace Go.PI
open IM
set_option maxRecDepth 10000
set_option maxHeartbeats 4000000
theorem fn48 : ctx.fn 48 = some c48 := by kernel_rfl
theorem fn49 : ctx.fn 49 = some c49 := by kernel_rfl
variable (S : FuncId -> Option (List AV -> Heap -> Option (AV × Heap)))
theorem above_ct (h141 : S 141 = none) (h205 : S 205 = none) (h206 : S 206 = none) {n : Int} (hn : -1000000000 <= n /\ n <= 1000000000) :
  Ct (ctx.plus S) 141 [pn n] 5 fun r => ∃ k, 0 <= k /\ n <= k * k /\ (∀ t, 0 <= t -> n <= t * t -> k <= t) /\ r = pn k := by
 intro H W avs hw hr hl
 cases hr with
 | cons h1 hr =>
  cases hr
  cases h1
  refine (rootAbove_run S h141 h205 h206 (by omega) hn).mono ?_
  rintro r H' ⟨⟨k, rfl, h1, h2, h3⟩, k1⟩
  exact ⟨_, ⟨k, h1, h2, h3, rfl⟩, .int _ _, kp_of (k1.le (by omega))⟩
def pF0 : PV := .agg [.lst 0 [], pn 0, pn 0, pn 0]
inductive RootQ (d : Int) : PV -> Prop
 | out : ¬ (2 <= d /\ d <= 1000) -> RootQ d (.tup [pF0, pn 2])
 | square {k : Int} : 2 <= d /\ d <= 1000 -> 0 <= k -> k * k = d -> RootQ d (.tup [pF0, pn 3])
 | ok {k : Int} : 2 <= d /\ d <= 1000 -> 0 <= k -> k * k < d -> d < (k + 1) * (k + 1) -> RootQ d (.tup [pF [0 - d, 0, 1] k (k + 1) 1, pn 0])
theorem root_ct (h48 : S 48 = none) (h140 : S 140 = none) (h141 : S 141 = none) (h205 : S 205 = none) (h206 : S 206 = none) {d : Int} : Ct (ctx.plus S) 48 [pn d] 50 (RootQ d) := by
 refine ct_of h48 fn48 ?_
 refine ⟨by omega, ?_⟩
 refine callq rfl (within_ct S h140) (by omega) ?_
 rintro _ (⟨hd, rfl⟩ | ⟨hd, rfl⟩)
 ·refine callq rfl (above_ct S h141 h205 h206 (n := d) (by omega)) (by omega) ?_
  rintro _ ⟨k, k0, k1, k2, rfl⟩
  have hk : k <= 32 := k2 32 (by omega) (by omega)
  have hkk : 0 <= k * k /\ k * k <= 1024 := ⟨Int.mul_nonneg k0 k0, by have := Int.mul_le_mul hk hk k0 (by omega); omega⟩
  refine ⟨⟨by omega, by omega⟩, ?_⟩
  refine ⟨fun he => ?_, fun he => ?_⟩
  ·refine part0 ⟨[.lst 0 [], pn 0, pn 0, pn 0], rfl, ?_⟩
   refine ⟨_, _, rfl, ⟨rfl, Nat.le_of_ble_eq_true rfl, rfl⟩, _, rfl, _, rfl, ?_⟩
   refine ⟨_, rfl, ?_⟩
   exact endsq rfl (.square hd k0 he)
  ·have hlt : (k - 1) * (k - 1) < d := by
    rcases ilt_or ((k - 1) * (k - 1)) d with h | h
    ·exact h
    ·rcases ilt_or 0 k with h0 | h0
     ·have := k2 (k - 1) (by omega) h; omega
     ·have : k = 0 := by omega
      subst this
      omega
   have hk0 : k ≠ 0 := fun e => by subst e; omega
   refine ⟨⟨by omega, by omega⟩, ?_⟩
   refine ⟨by omega, part3 fzI fzI fzI ⟨[pn (0 - d), pn 0, pn 1], rfl, ?_⟩⟩
   refine ⟨⟨by omega, by omega⟩, ?_⟩
   refine part4 (fz_own rfl (Nat.le_of_ble_eq_true rfl) (by decide) rfl) fzI fzI fzI ⟨[pIs [0 - d, 0, 1], pn (k - 1), pn k, pn 1], rfl, ?_⟩
   refine ⟨_, _, rfl, ⟨rfl, Nat.le_of_ble_eq_true rfl, rfl⟩, _, rfl, _, rfl, ?_⟩
   refine ⟨_, rfl, ?_⟩
   refine endsq rfl ?_
   have hk1 : d < k * k := by omega
   have := RootQ.ok (d := d) (k := k - 1) hd (by omega) hlt (by rw [show k - 1 + 1 = k by omega]; exact hk1)
   rw [show k - 1 + 1 = k by omega] at this
   exact this
 ·refine part0 ⟨[.lst 0 [], pn 0, pn 0, pn 0], rfl, ?_⟩
  refine ⟨_, _, rfl, ⟨rfl, Nat.le_of_ble_eq_true rfl, rfl⟩, _, rfl, _, rfl, ?_⟩
  refine ⟨_, rfl, ?_⟩
  exact endsq rfl (.out hd)
theorem rroot_ct (h49 : S 49 = none) (h131 : S 131 = none) {d : Int} : Ct (ctx.plus S) 49 [pn d] 50 (RootQ d) := by
 refine ct_of h49 fn49 ?_
 refine ⟨by omega, ?_⟩
 refine callq rfl (rwithin_ct S h131) (by omega) ?_
 rintro _ (⟨hd, rfl⟩ | ⟨hd, rfl⟩)
 ·refine ⟨fun mm s => ∃ (k : Nat) (j1 j5 j6 j7 j8 j9 ja jb jc jd je jf jg jh ji jj jk jl jm jn jo jp jq jr js jt ju : PV), s = ⟨[pn d, j1, .optr 0 0, pn 0, pn (k : Int), j5, j6, j7, j8, j9, ja, jb, jc, jd, je, jf, jg, jh, ji, jj, jk, jl, jm, jn, jo, jp, jq, jr, js, jt, ju], [.live 46 [.lst 0 [], pn 0, pn 0, pn 0]], 1⟩ /\ mm = 40 - k /\ 1 <= k /\ k <= 32 /\ (k : Int) * k <= d, ⟨39, ?_⟩, ?_⟩
  ·exact ci ⟨1, _, _, _, _, _, _, _, _, _, _, _, _, _, _, _, _, _, _, _, _, _, _, _, _, _, _, _, rfl, rfl, by omega, by omega, by omega⟩
  ·rintro mm s ⟨k, j1, j5, j6, j7, j8, j9, ja, jb, jc, jd, je, jf, jg, jh, ji, jj, jk, jl, jm, jn, jo, jp, jq, jr, js, jt, ju, rfl, hm, h1, h32, hk⟩
   have hsq : ((k : Int) + 1) * (k + 1) <= 33 * 33 := Int.mul_le_mul (by omega) (by omega) (by omega) (by omega)
   have hsq0 : 0 <= ((k : Int) + 1) * (k + 1) := Int.mul_nonneg (by omega) (by omega)
   refine ⟨⟨by omega, by omega⟩, ?_⟩
   refine ⟨⟨by omega, by omega⟩, ?_⟩
   refine ⟨⟨by omega, by omega⟩, ?_⟩
   refine ⟨fun hle => ?_, fun hgt => ?_⟩
   ·refine ⟨⟨by omega, by omega⟩, ?_⟩
    have hk31 : k + 1 <= 32 := by
     rcases Nat.lt_or_ge 31 k with h | h
     ·exfalso
      have : ((k : Int) + 1) * (k + 1) = 33 * 33 := by rw [show k = 32 by omega]; rfl
      omega
     ·omega
    exact ⟨40 - (k + 1), by omega, ci ⟨k + 1, _, _, _, _, _, _, _, _, _, _, _, _, _, _, _, _, _, _, _, _, _, _, _, _, _, _, _, rfl, rfl, by omega, hk31, hle⟩⟩
   ·have hkk : 0 <= (k : Int) * k := Int.mul_nonneg (by omega) (by omega)
    refine ⟨⟨by omega, by omega⟩, ?_⟩
    refine ⟨fun he => ?_, fun he => ?_⟩
    ·refine part0 ⟨[.lst 0 [], pn 0, pn 0, pn 0], rfl, ?_⟩
     refine ⟨_, _, rfl, ⟨rfl, Nat.le_of_ble_eq_true rfl, rfl⟩, _, rfl, _, rfl, ?_⟩
     refine ⟨_, rfl, ?_⟩
     exact endsq rfl (.square hd (by omega) he)
    ·refine ⟨⟨by omega, by omega⟩, ?_⟩
     refine ⟨by omega, part3 fzI fzI fzI ⟨[pn (0 - d), pn 0, pn 1], rfl, ?_⟩⟩
     refine ⟨⟨by omega, by omega⟩, ?_⟩
     refine part4 (fz_own rfl (Nat.le_of_ble_eq_true rfl) (by decide) rfl) fzI fzI fzI ⟨[pIs [0 - d, 0, 1], pn k, pn (k + 1), pn 1], rfl, ?_⟩
     refine ⟨_, _, rfl, ⟨rfl, Nat.le_of_ble_eq_true rfl, rfl⟩, _, rfl, _, rfl, ?_⟩
     refine ⟨_, rfl, ?_⟩
     exact endsq rfl (.ok hd (by omega) (by omega) (by omega))
 ·refine part0 ⟨[.lst 0 [], pn 0, pn 0, pn 0], rfl, ?_⟩
  refine ⟨_, _, rfl, ⟨rfl, Nat.le_of_ble_eq_true rfl, rfl⟩, _, rfl, _, rfl, ?_⟩
  refine ⟨_, rfl, ?_⟩
  exact endsq rfl (.out hd)
theorem sq_step {a b : Int} (ha : 0 <= a) (h : a + 1 <= b) : (a + 1) * (a + 1) <= b * b := Int.mul_le_mul h h (by omega) (by omega)
theorem rootq_same {d : Int} {r r' : PV} (h : RootQ d r) (h' : RootQ d r') : r = r' := by
 cases h with
 | out h =>
  cases h' with
  | out => rfl
  | square h1 => exact absurd h1 h
  | ok h1 => exact absurd h1 h
 | @square k hd k0 hk =>
  cases h' with
  | out h1 => exact absurd hd h1
  | square => rfl
  | @ok m _ m0 a b =>
   exfalso
   rcases ilt_or m k with h | h
   ·have := sq_step m0 (show m + 1 <= k by omega); omega
   ·have := Int.mul_le_mul h h k0 (by omega); omega
 | @ok k hd k0 a b =>
  cases h' with
  | out h1 => exact absurd hd h1
  | @square m _ m0 hm =>
   exfalso
   rcases ilt_or k m with h | h
   ·have := sq_step k0 (show k + 1 <= m by omega); omega
   ·have := Int.mul_le_mul h h m0 (by omega); omega
  | @ok m _ m0 a' b' =>
   have e : k = m := by
    rcases Int.lt_trichotomy k m with h | h | h
    ·have := sq_step k0 (show k + 1 <= m by omega); omega
    ·exact h
    ·have := sq_step m0 (show m + 1 <= k by omega); omega
   rw [e]
end Go.PI

namespace Go.PI
open IM
set_option maxRecDepth 100000
def oneB (P : List Int) (lo hi den : Int) : Bool :=
 match P with
 | c0 :: cs => decide (varP (sgs lo den (chP cs.length (c0 :: cs) (derL 1 cs))) 0 - varP (sgs hi den (chP cs.length (c0 :: cs) (derL 1 cs))) 0 = 1)
 | [] => false
theorem one_of {P : List Int} {lo hi den : Int} (h : oneB P lo hi den = true) (hl : P.length ≠ 2) : OneP P lo hi den := by
 cases P with
 | nil => cases h
 | cons c0 cs => exact .inr ⟨hl, c0, cs, rfl, of_decide_eq_true h⟩
def rootsB (n : Nat) : Bool := (List.range n).all fun d => (List.range 33).all fun k => !(Nat.blt (k * k) d && Nat.blt d ((k + 1) * (k + 1))) || oneB [0 - (d : Int), 0, 1] k (k + 1) 1
theorem roots_b : rootsB 1001 = true := by kernel_rfl
theorem root_one {d k : Int} (hd : 2 <= d /\ d <= 1000) (k0 : 0 <= k) (h1 : k * k < d) (h2 : d < (k + 1) * (k + 1)) : OneP [0 - d, 0, 1] k (k + 1) 1 := by
 obtain ⟨D, rfl⟩ : ∃ D : Nat, d = D := ⟨d.toNat, by omega⟩
 obtain ⟨K, rfl⟩ : ∃ K : Nat, k = K := ⟨k.toNat, by omega⟩
 have hK : K <= 32 := by
  rcases Nat.lt_or_ge 32 K with h | h
  ·have : (33 : Int) * 33 <= (K : Int) * K := Int.mul_le_mul (by omega) (by omega) (by omega) (by omega)
   omega
  ·exact h
 have h3 := List.all_eq_true.1 (List.all_eq_true.1 roots_b D (List.mem_range.2 (by omega))) K (List.mem_range.2 (by omega))
 have e1 : Nat.blt (K * K) D = true := by
  refine Nat.ble_eq_true_of_le ?_
  have : ((K * K : Nat) : Int) < D := by rw [Int.natCast_mul]; exact h1
  omega
 have e2 : Nat.blt D ((K + 1) * (K + 1)) = true := by
  refine Nat.ble_eq_true_of_le ?_
  have : (D : Int) < (((K + 1) * (K + 1) : Nat) : Int) := by rw [Int.natCast_mul]; exact h2
  omega
 rw [e1, e2] at h3
 exact one_of h3 (by simp)
theorem root_ok {d k e : Int} (hd : 2 <= d /\ d <= 1000) (k0 : 0 <= k) (h1 : k * k < d) (h2 : d < (k + 1) * (k + 1)) (h : CkP [0 - d, 0, 1] k (k + 1) 1 e) : e = 0 := by
 have hk : k <= 32 := by
  rcases ilt_or 32 k with h | h
  ·have : (33 : Int) * 33 <= k * k := Int.mul_le_mul (by omega) (by omega) (by omega) (by omega)
   omega
  ·exact h
 have hn : ∀ b : Int, b * b ≠ d := fun b hb => by
  have key : ∀ c : Int, 0 <= c -> c * c = d -> False := fun c c0 hc => by
   rcases ilt_or k c with h | h
   ·have := sq_step k0 (show k + 1 <= c by omega); omega
   ·have := Int.mul_le_mul h h c0 (by omega); omega
  rcases ilt_or b 0 with h | h
  ·exact key (-b) (by omega) (by rw [Int.neg_mul_neg]; exact hb)
  ·exact key b h hb
 have hh : ¬ HasP [0 - d, 0, 1] := by
  rintro ⟨p0, cs, he, h⟩
  cases he
  rcases h with h | ⟨b, -, h | ⟨p1, p2, p3, he, -⟩⟩
  ·omega
  ·refine hn b ?_
   have : pv [0 - d, 0, 1] b = 0 - d + b * b := by
    simp [pv]
    try grind
   omega
  ·cases he
 cases h with
 | ok => rfl
 | shape h => simp at h
 | range _ h =>
  exfalso
  refine h ⟨fun c hc => ?_, by omega, by omega, by omega⟩
  simp at hc
  omega
 | form _ _ h =>
  rcases h with h | ⟨-, h⟩
  ·exact absurd rfl h
  ·exact absurd h hh
 | order _ _ _ h => omega
 | none _ _ _ _ h => exact absurd (root_one hd k0 h1 h2) h
end Go.PI

open Go.Proofs
namespace Go.PI
open IM
set_option maxRecDepth 10000
set_option maxHeartbeats 4000000
def pQ (Xs : List (List Int)) : PV := .lst Xs.length (Xs.map pIs)
theorem rw_get {Xs : List (List Int)} {L : List Int} (h : All2 Rw Xs L) {i : Nat} (hi : i < L.length) : ∃ xs, Xs[i]? = some xs /\ Rw xs (L.getD i 0) := by
 obtain ⟨xs, h1, h2⟩ := All2.get2 h (get_at hi)
 exact ⟨xs, h1, h2⟩
theorem pones_Q : ∀ Xs : List (List Int), pones (Xs.map pIs) = true
 | [] => rfl
 | l :: ls => by simp only [List.map_cons, pones, pones_Q ls, Bool.and_true]; rfl
end Go.PI

open Go.Proofs
namespace Go.PI
open IM
set_option maxRecDepth 10000
set_option maxHeartbeats 4000000
theorem Cm.ct {C : Ctx} {g : FuncId} {ps : List PV} {d : Nat} {Q : PV -> List StB -> Prop} {Q' : PV -> Prop} (h : Cm C g ps [] d Q) (hq : ∀ r σ', Q r σ' -> frzAK σ' r fun p _ => Q' p) : Ct C g ps d Q' := by
 intro H W avs hw hr hn
 have I : Sto H W d [] 0 W [] H := ⟨hn, Nat.zero_le _, Nat.le_refl _, Nat.le_refl _, fun _ _ => rfl, hw, fun _ h => h, fun _ h => .inl h, rfl, fun i b h => by simp at h, fun i t l b h => by simp at h, fun i t l b h => by simp at h, fun i j b h => by simp at h, fun i t l b h => by simp at h⟩
 refine (h H W d 0 W [] H avs I (by omega) (RelVs.clo hr)).mono ?_
 rintro v H' ⟨r, σ', k', W', β', E, I', hv, hQ, hk⟩
 obtain ⟨p, σ2, W2, f, r2, hp⟩ := frzAK_ok (hq r σ' hQ) I' hv
 exact ⟨p, hp, r2.mono (fun _ _ _ => rfl) (fun A _ h => f.2.1.w0 A h), I'.lo, by have := I'.hi; omega, I'.keep⟩
def Wrt (σ σ' : List StB) (r : PV) (xs : List Int) : Prop :=
 ∃ j, (r = .own j 0 xs.length xs.length 1 ∨ r = .ownu j xs.length 1) /\ σ'[j]? = some (.live 3 (xs.map pn)) /\ σ.length <= j /\ ∀ (i : Nat) (b : StB), σ[i]? = some b -> σ'[i]? = some b
theorem Wrt.fz {σ σ' : List StB} {r : PV} {xs : List Int} (h : Wrt σ σ' r xs) : frzAK σ' r fun p _ => p = pIs xs := by
 obtain ⟨j, rfl | rfl, h1, -, -⟩ := h
 ·exact ⟨3, _, _, contOf_live h1, ⟨by simp, Nat.le_refl _⟩, rfl, by show PV.lst _ _ = _; rw [List.drop_zero, List.take_of_length_le (by simp)]; rfl⟩
 ·exact ⟨3, _, _, contOf_live h1, ⟨by simp, fun _ => rfl⟩, rfl, by show PV.lst _ _ = _; rw [List.take_of_length_le (by simp)]; rfl⟩
variable (S : FuncId -> Option (List AV -> Heap -> Option (AV × Heap)))
theorem rtrim_cm (h111 : S 111 = none) {xs : List Int} {σ : List StB} (hl : xs.length <= 1000000) : Cm (ctx.plus S) 111 [pIs xs] σ 3 fun r σ' => Wrt σ σ' r (trimL xs) := by
 refine cm_of Opn.no h111 fn111 fun c k0 hc => ?_
 refine ⟨fun m s => ∃ (i : Nat) (T : List PV), s = ⟨T, σ, k0⟩ /\ Gt T 23 [(0, pIs xs), (3, pn i)] /\ m = i /\ i <= xs.length /\ (∀ j, i <= j -> j < xs.length -> xs[j]? = some 0), ⟨xs.length, ?_⟩, ?_⟩
 ·exact ci ⟨xs.length, _, rfl, ⟨rfl, rfl, rfl, trivial⟩, rfl, Nat.le_refl _, fun j h1 h2 => by omega⟩
 rintro m s ⟨i, T, rfl, hT, hm, hi, hz⟩
 obtain ⟨J, rfl⟩ := gt_open hT
 clear hT
 obtain ⟨x, hx⟩ : ∃ x, 0 < i -> xs[i - 1]? = some x := by
  by_cases hp : 0 < i
  ·exact ⟨xs[i - 1]'(by omega), fun _ => List.getElem?_eq_getElem _⟩
  ·exact ⟨0, fun h => absurd h hp⟩
 refine ⟨fun hgt => ⟨⟨by omega, by omega⟩, ⟨⟨by omega, by omega⟩, len_map_le (by omega)⟩, _, ld (at_map (hx (by omega))) (by show _ * 1 = i - 1; omega), fun h0 => ?loop, fun h0 => ?_⟩, fun hle => ?_⟩
 case loop =>
  refine ⟨⟨by omega, by omega⟩, ?_⟩
  have e1 : (i : Int) - 1 = ((i - 1 : Nat) : Int) := by omega
  rw [e1]
  exact ⟨i - 1, by omega, ci ⟨i - 1, _, rfl, ⟨rfl, rfl, rfl, trivial⟩, rfl, by omega, fun j h1 h2 => by
   by_cases hj : j = i - 1
   ·subst hj; rw [hx (by omega), h0]
   ·exact hz j (by omega) h2⟩⟩
 all_goals
  have ht : i = 0 ∨ ∃ x, xs[i - 1]? = some x /\ x ≠ 0 := by
   first
    | exact .inl (by omega)
    | exact .inr ⟨x, hx (by omega), h0⟩
  have hti : trimL xs = xs.take i := trim_is hi hz ht
  have hli : (xs.take i).length = i := by simp; omega
  rw [hti]
  refine ⟨by omega, part0 ⟨[], rfl, ?_⟩⟩
  refine ⟨by rw [List.length_map]; show _ = _ * 1; omega, ⟨by omega, by omega⟩, fun _ => rfl, (xs.take i).map pn, ?_, ?_⟩
  ·rw [List.map_take]; show List.take ((_ - 0) * 1) (List.drop (0 * 1) _) = _; simp
  have hpn : pones ((xs.take i).map pn) = true := pones_pn _
  refine ⟨⟨by rw [List.length_map, hli]; show _ = (_ - 0) * 1; omega, ⟨by show ((i : Int)).toNat - 0 <= 2 ^ 30; omega, hpn⟩, by decide, fun h => ?_, fun h => ⟨by omega, 3, [], _, push_cont, by decide, rfl, ?_⟩⟩⟩
  ·have h0 : i = 0 := by
    have : 0 + (((i : Int)).toNat - 0) <= 0 := h
    omega
   subst h0
   refine ⟨3, [], _, push_get, by simp, rfl, ?_⟩
   refine endm [] (by dsimp only; omega) ?_
   exact ⟨σ.length, .inl rfl, by rw [push_set, push_get]; rfl, Nat.le_refl _, fun i b hb => by rw [push_set, List.getElem?_append_left (List.getElem?_eq_some_iff.1 hb).1]; exact hb⟩
  ·refine endm [] (by dsimp only; omega) ?_
   exact ⟨σ.length + 1, .inr (by rw [List.length_append, hli]; show PV.ownu _ (0 + (((i : Int)).toNat - 0)) 1 = _; rw [show 0 + (((i : Int)).toNat - 0) = i by omega]; rfl), push_at (by simp), Nat.le_succ _, fun i b hb => by
    rw [List.getElem?_append_left (by simp; have := (List.getElem?_eq_some_iff.1 hb).1; omega), List.getElem?_append_left (List.getElem?_eq_some_iff.1 hb).1]
    exact hb⟩
theorem rtrim_ct (h111 : S 111 = none) {xs : List Int} (hl : xs.length <= 1000000) : Ct (ctx.plus S) 111 [pIs xs] 3 fun r => r = pIs (trimL xs) := (rtrim_cm S h111 hl).ct fun _ _ h => h.fz
end Go.PI

open Go.Proofs
namespace Go.PI
open IM
set_option maxRecDepth 10000
set_option maxHeartbeats 4000000
variable (S : FuncId -> Option (List AV -> Heap -> Option (AV × Heap)))
def negs (xs : List Int) : List Int := xs.map fun x => 0 - x
theorem signed_ct (h112 : S 112 = none) (h111 : S 111 = none) {xs : List Int} {β : Bool} (hl : xs.length <= 1000000) (hr : ∀ e ∈ xs, In64 (0 - e)) :
  Ct (ctx.plus S) 112 [pIs xs, .bool β] 3 fun r => r = pIs (if β then negs (trimL xs) else trimL xs) := by
 refine ct_of h112 fn112 ?_
 refine callm (rtrim_cm S h111 hl) (by omega) ?_
 rintro r σ' ⟨j, hr1, hj, -, -⟩
 obtain ⟨ys, hys⟩ : ∃ ys, trimL xs = ys := ⟨_, rfl⟩
 have hrs : ∀ e ∈ ys, In64 (0 - e) := fun e he => hr e (trim_mem xs e (by rw [hys]; exact he))
 have hyl : ys.length <= 1000000 := Nat.le_trans (by rw [← hys]; exact (trim_take xs).2.2) hl
 rw [hys] at hr1 hj ⊢
 have hng : ∀ {i : Nat} {e : Int}, ys[i]? = some e -> (negs (ys.take i) ++ ys.drop i)[i]? = some e /\ pspl ((negs (ys.take i) ++ ys.drop i).map pn) i [pn (0 - e)] = (negs (ys.take (i + 1)) ++ ys.drop (i + 1)).map pn := fun {i e} he => by
  have hi := (List.getElem?_eq_some_iff.1 he).1
  have h1 : (negs (ys.take i)).length = i := by simp [negs]; omega
  refine ⟨by rw [List.getElem?_append_right (by omega), h1, Nat.sub_self, List.getElem?_drop]; exact he, ?_⟩
  rw [drop_of_get he, take_snoc he]
  unfold pspl
  rw [List.map_append, List.take_left' (by rw [List.length_map, h1]), List.drop_append, List.length_map, h1]
  simp [negs]
  omega
 refine ⟨fun m s => ∃ (i : Nat) (σ : List StB) (T : List PV), s = ⟨T, σ, 0 + 3⟩ /\ Gt T 27 [(1, .bool β), (5, r), (6, pn i)] /\ m = ys.length - i /\ i <= ys.length /\ (β = false -> i = 0) /\ σ[j]? = some (.live 3 ((negs (ys.take i) ++ ys.drop i).map pn)), ⟨ys.length, ?_⟩, ?_⟩
 ·exact ci ⟨0, _, _, rfl, ⟨rfl, rfl, rfl, rfl, trivial⟩, rfl, Nat.zero_le _, fun _ => rfl, hj⟩
 clear hj
 rintro _ s ⟨i, σ, T, rfl, hT, rfl, hi, hβ, hj⟩
 obtain ⟨J, rfl⟩ := gt_open hT
 clear hT
 have hlen : ((negs (ys.take i) ++ ys.drop i).map pn).length = ys.length := by simp [negs]; omega
 have fin : (β = false ∨ i = ys.length) -> (negs (ys.take i) ++ ys.drop i) = if β then negs ys else ys := fun h => by
  cases β with
  | false => rw [hβ rfl]; rfl
  | true =>
   have : i = ys.length := h.resolve_left (by simp)
   rw [this, List.take_length, List.drop_length, List.append_nil]
   rfl
 have hfz : (β = false ∨ i = ys.length) -> ∀ v, (v = r) -> EndK σ v fun r => r = pIs (if β then negs ys else ys) := fun h v hv => by
  have hl2 : (if β then negs ys else ys).length = ys.length := by split <;> simp [negs]
  have hq : PV.lst ys.length ((negs (ys.take i) ++ ys.drop i).map pn) = pIs (if β then negs ys else ys) := by rw [fin h, pIs, hl2]
  rcases hr1 with rfl | rfl
  ·subst hv
   exact ⟨⟨[], 3, _, _, contOf_live hj, ⟨by rw [hlen]; omega, Nat.le_refl _⟩, by rw [List.drop_zero, List.take_of_length_le (by rw [hlen]; omega)], hq⟩⟩
  ·subst hv
   exact ⟨⟨[], 3, _, _, contOf_live hj, ⟨by rw [hlen]; omega, fun _ => rfl⟩, by rw [List.take_of_length_le (by rw [hlen]; omega)], hq⟩⟩
 rcases hr1 with rfl | rfl
 all_goals
  cases β with
  | false =>
   refine ⟨fun hlt => ?_, fun hge => ?_⟩
   all_goals exact hfz (.inl rfl) _ rfl
  | true =>
   refine ⟨fun hlt => ?_, fun hge => ?_⟩
   ·obtain ⟨e, he⟩ : ∃ e, ys[i]? = some e := ⟨ys[i]'(by omega), List.getElem?_eq_getElem _⟩
    obtain ⟨q1, q2⟩ := hng he
    refine ⟨⟨by omega, by omega⟩, pn e, load_k rfl rfl (contOf_live hj) (at_map q1) (by show 0 + (_ : Int).toNat * 1 = i; omega), hrs e (List.mem_of_getElem? he), ⟨by omega, by omega⟩, ?_⟩
    refine ⟨_, _, hj, ⟨rfl, by rw [hlen]; show 0 + (_ : Int).toNat * 1 + 1 <= _; omega, rfl⟩, (negs (ys.take (i + 1)) ++ ys.drop (i + 1)).map pn, (by rw [show 0 + ((i : Int)).toNat * t3.size = i by show 0 + ((i : Int)).toNat * 1 = i; omega]; exact q2), _, rfl, ?_⟩
    refine ⟨⟨by omega, by omega⟩, ?_⟩
    refine ⟨ys.length - (i + 1), by omega, ci ⟨i + 1, _, _, rfl, ⟨rfl, rfl, rfl, rfl, trivial⟩, rfl, by omega, (fun h => by cases h), ?_⟩⟩
    rw [List.getElem?_set_self (List.getElem?_eq_some_iff.1 hj).1]
   ·exact hfz (.inr (by omega)) _ rfl
theorem rngv_ct (h122 : S 122 = none) {X : Int} (hl : (digits X).length <= 1000000) : Ct (ctx.plus S) 122 [pI X] 0 fun r => r = .bool (decide (X < 0)) := by
 intro H W avs hw hr hn
 cases hr with
 | cons h1 hr =>
  cases hr
  refine (rnegative_run S h122 (sl_rel h1).1 hl (nrm_digits X)).mono ?_
  rintro _ _ ⟨rfl, rfl⟩
  rw [val_digits]
  exact ⟨_, rfl, .bool _, KpH.refl _ _⟩
theorem rsize_ct (hR : OldR S) {X : Int} (hl : (digits X).length <= 1000000) : Ct (ctx.plus S) 119 [pI X] 5 fun r => r = pI X.natAbs := by
 refine ct_of hR.h119 fn119 ?_
 refine callq rfl (rngv_ct S hR.h122 hl) (by omega) ?_
 rintro _ rfl
 have hs := (nrm_digits X).sml'
 refine callq rfl (signed_ct S hR.h112 hR.h111 hl fun e he => by have := hs e he; unfold In64; omega) (by omega) ?_
 rintro _ rfl
 refine endq rfl ?_
 rw [trim_of_top (nrm_digits X).2]
 have e1 := negd X
 rcases Decidable.em (X < 0) with h | h
 ·rw [decide_eq_true h, if_pos rfl]
  show pIs (negs (digits X)) = pIs (digits _)
  congr 1
  rw [show (X.natAbs : Int) = -X by omega, ← e1]
  unfold negs
  apply List.map_congr_left
  intro a _
  omega
 ·rw [decide_eq_false h]
  show pIs (digits X) = pIs (digits _)
  rw [show (X.natAbs : Int) = X by omega]
theorem rnorm_ct (hR : OldR S) {xs : List Int} {X : Int} (hx : Rw xs X) : Ct (ctx.plus S) 25 [pIs xs] 1000 fun r => r = pI X := by
 intro H W avs hw hr hn
 have hl := hx.len
 cases hr with
 | cons h1 hr =>
  cases hr
  refine (rnormal_run S hR.h25 hR.h110 hR.h111 hR.h112 (by omega) (sl_rel h1).1 (by omega) hx.in64).mono ?_
  rw [hx.val]
  rintro r H' ⟨hM, hm⟩
  exact ⟨_, rfl, rel_mine hw hM, mine_kp hM (by omega)⟩
theorem less_ct (hR : OldR S) {X Y : Int} (hX : 0 <= X) (hY : 0 <= Y) (lx : (digits X).length <= 1000) (ly : (digits Y).length <= 1000) : Ct (ctx.plus S) 190 [pI X, pI Y] 0 fun r => r = .bool (decide (X < Y)) := by
 intro H W avs hw hr hn
 cases hr with
 | cons h1 hr => cases hr with
  | cons h2 hr =>
   cases hr
   refine (less_run S hR (sl_rel h1).1 (sl_rel h2).1 lx ly (dig_digits hX) (dig_digits hY) (nrm_digits X).2 (nrm_digits Y).2).mono ?_
   rw [val_digits, val_digits]
   rintro _ _ ⟨rfl, rfl⟩
   exact ⟨_, rfl, .bool _, KpH.refl _ _⟩
theorem rmuls_ct (hR : OldR S) {xs ys : List Int} {X Y : Int} (hx : Rw xs X) (hy : Rw ys Y) (lx : xs.length <= 20) (ly : ys.length <= 20) (lxy : (digits X).length + (digits Y).length <= 20) : Ct (ctx.plus S) 32 [pIs xs, pIs ys] 20000 fun r => r = pI (X * Y) := by
 intro H W avs hw hr hl
 cases hr with
 | cons h1 hr => cases hr with
  | cons h2 hr =>
   cases hr
   refine (rmul_run S hR hl ⟨(sl_rel h1).1, hx.in64, lx, hx.val, by omega⟩ ⟨(sl_rel h2).1, hy.in64, ly, hy.val, by omega⟩ lxy).mono ?_
   rintro r H' ⟨hM, hm⟩
   exact ⟨_, rfl, rel_mine hw hM, mine_kp hM (by omega)⟩
end Go.PI

open Go.Proofs
namespace Go.PI
open IM
set_option maxRecDepth 10000
set_option maxHeartbeats 4000000
theorem rel_nw {H H' : Heap} {W : Nat -> Prop} {xs : List Int} {a : AV} (hw : ∀ b, W b -> b < H.n) (h : Nw H a xs H') : RelC H' W (pIs xs) a := by
 rcases h with ⟨rfl, rfl, -⟩ | h
 ·exact .lnil
 ·exact rel_mine hw h
variable (S : FuncId -> Option (List AV -> Heap -> Option (AV × Heap)))
theorem clone_ct (h109 : S 109 = none) {xs : List Int} (hl : xs.length <= 1000000) : Ct (ctx.plus S) 109 [pIs xs] 8 fun r => r = pIs xs := by
 intro H W avs hw hr hn
 cases hr with
 | cons h1 hr =>
  cases hr
  refine (clone_new S h109 (by omega) (sl_rel h1).1 hl).mono ?_
  rintro r H' ⟨hM, k⟩
  exact ⟨_, rfl, rel_nw hw hM, kp_of k⟩
theorem cmp_ct (hS : OldI S) {X Y : Int} (lx : (digits X).length <= 1000000) (ly : (digits Y).length <= 1000000) : Ct (ctx.plus S) 107 [pI X, pI Y] 20 fun r => r = pn (cmpI X Y) := by
 intro H W avs hw hr hn
 cases hr with
 | cons h1 hr => cases hr with
  | cons h2 hr =>
   cases hr
   refine (compare_run S hS.h107 hS.o.h125 hS.h181 hS.h227 hS.h182 hS.h228 (by omega) (sl_rel h1).1 (sl_rel h2).1 lx ly (nrm_digits X) (nrm_digits Y)).mono ?_
   rintro r H' ⟨rfl, k⟩
   rw [val_digits, val_digits]
   exact ⟨_, rfl, .int _ _, kp_of (k.le (by omega))⟩
theorem quot_ct (hS : OldI S) {X Y : Int} (lx : (digits X).length <= 900000) (ly : (digits Y).length <= 900000) (hX : 0 <= X) (hY : 0 < Y) : Ct (ctx.plus S) 189 [pI X, pI Y] 100 fun r => r = .tup [pI (X / Y), pI (X % Y)] := by
 intro H W avs hw hr hn
 cases hr with
 | cons h1 hr => cases hr with
  | cons h2 hr =>
   cases hr
   have nx := nrm_digits X
   have ny := nrm_digits Y
   have dx := nrm_pos nx (by rw [val_digits]; exact hX)
   have dy := nrm_pos ny (by rw [val_digits]; omega)
   have hne : digits Y ≠ [] := fun h => by have := digits_nil.1 h; omega
   refine (quotient_new S hS (by omega) (sl_rel h1).1 (sl_rel h2).1 (by omega) (by omega) dx nx.2 dy ny.2 hne).mono ?_
   rintro r H' ⟨q, w, rfl, hq, hw', k⟩
   rw [val_digits, val_digits] at hq hw'
   exact ⟨_, rfl, .tup (.cons (rel_nw hw hq) (.cons (rel_nw hw hw') .nil)), kp_of (k.le (by omega))⟩
end Go.PI

open Go.Proofs
namespace Go.PI
open IM
theorem fn229 : ctx.fn 229 = some c229 := by kernel_rfl
theorem fn188 : ctx.fn 188 = some c188 := by kernel_rfl
set_option maxRecDepth 10000
set_option maxHeartbeats 4000000
variable (S : FuncId -> Option (List AV -> Heap -> Option (AV × Heap)))
theorem min_two {C : Ctx} {ρ : Operand -> Option AV} {x y : Operand} {ts : Array TypeId} {m n : Nat} {a : Int} (hx : ρ x = some (iv a)) (hy : ρ y = some (iv n)) (ha : a = m) : pureE C ρ (.call { callee := .builtin .min, args := #[x, y], argTypes := ts }) = some (iv (min m n : Nat)) := by
 subst ha
 simp only [pureE, opds, hx, hy, builtinP, foldMinMax]
 simp
 by_cases h : n < m
 ·rw [if_pos (by omega)]; omega
 ·rw [if_neg (by omega)]; omega
theorem slice_low {C : Ctx} (hT : C.ty = tget) {ρ : Operand -> Option AV} {x y : Operand} {H : Heap} {v : AV} {xs : List Int} {k : Nat} (hx : ρ x = some v) (hy : ρ y = some (iv k)) (h : Sl H v xs) (hc : Cp v) (hne : xs ≠ []) (hk : k <= xs.length) :
  ∃ r, pureE C ρ (.slice 22 x (some y) none none) = some r /\ Sl H r (xs.drop k) := by
 have key : ∀ {b o l : Nat}, l = xs.length -> (∃ rw ty cs, H.get b = .cells rw ty cs /\ o + l <= cs.length /\ (cs.drop o).take l = ints xs) -> ∃ rw ty cs, H.get b = .cells rw ty cs /\ (o + k) + (l - k) <= cs.length /\ (cs.drop (o + k)).take (l - k) = ints (xs.drop k) := by
  rintro b o l rfl ⟨rw, ty, cs, h1, h2, h3⟩
  refine ⟨rw, ty, cs, h1, by omega, ?_⟩
  rw [← ints_drop, ← h3, List.drop_take, List.drop_drop]
 have hkk : (0 : Int) <= (k : Int) /\ (k : Int) <= (xs.length : Int) := by omega
 unfold Sl at h
 split at h
 ·exact absurd h hne
 ·exact absurd h hne
 ·rename_i b o l c
  obtain ⟨rfl, h2⟩ := h
  have hc : xs.length <= c := hc
  refine ⟨.sl b (if c = k then o else o + k) (xs.length - k) (c - k), ?_, ?_⟩
  ·simp only [pureE, hx, hy, ty22 hT, t22, ty3 hT, bound, hkk, and_self, if_true, Int.toNat_natCast]
   simp [t3]
  ·by_cases hck : c = k
   ·have hl : xs.length = k := by omega
    rw [if_pos hck]
    refine ⟨by simp, ?_⟩
    obtain ⟨rw, ty, cs, q1, q2, q3⟩ := h2
    refine ⟨rw, ty, cs, q1, by omega, ?_⟩
    rw [hl, Nat.sub_self, List.take_zero, List.drop_of_length_le (by omega)]; rfl
   ·rw [if_neg hck]
    exact ⟨by simp, key rfl h2⟩
 ·rename_i b o l e
  obtain ⟨rfl, rfl, h2⟩ := h
  by_cases hk2 : k < xs.length
  ·refine ⟨.slu b (o + k) (xs.length - k) 1, ?_, rfl, by simp, key rfl h2⟩
   simp only [pureE, hx, hy, ty22 hT, t22, ty3 hT, bound, hkk, and_self, if_true, Int.toNat_natCast]
   simp [t3, hk2]
  ·have hl : xs.length = k := by omega
   by_cases h0 : 0 < k
   ·refine ⟨.sle, ?_, by show xs.drop k = []; rw [List.drop_of_length_le (by omega)]⟩
    simp only [pureE, hx, hy, ty22 hT, t22, ty3 hT, bound, hkk, and_self, if_true, Int.toNat_natCast]
    simp [t3, hl, h0]
   ·have hk0 : k = 0 := by omega
    subst hk0
    refine ⟨.slu b o xs.length 1, ?_, rfl, by simp, by simpa using h2⟩
    simp only [pureE, hx, hy, ty22 hT, t22, ty3 hT, bound, hkk, and_self, if_true, Int.toNat_natCast]
    simp [t3, hl]
 ·exact h.elim
theorem leading_run (hS : OldI S) {H : Heap} {x : AV} {xs : List Int} {N : Nat} (hn : H.n + 20 < lim) (hx : Sl H x xs) (hc : Cp x) (hN : 2 <= N) (hl : xs.length <= N) (hNl : N <= 1000000) (dx : Dig xs) (hne : xs ≠ []) :
  Cl (ctx.plus S) 229 [x, iv N] H fun r H' => r = iv (val (xs.drop (min (N - 2) xs.length))) /\ Kp H H' 10 := by
 refine cl_of hS.h229 fn229 ?_
 have hT : (ctx.plus S).ty = tget := rfl
 refine ⟨⟨by omega, by omega⟩, ?_⟩
 refine ⟨_, len_sl hT (v := x) rfl hx, ?_⟩
 refine ⟨_, min_two (m := N - 2) (n := xs.length) rfl rfl (by omega), ?_⟩
 obtain ⟨r, hr, hrs⟩ := slice_low hT (C := ctx.plus S) (ρ := fun o => match o with | .tmp 5 => some x | _ => some (iv (min (N - 2) xs.length : Nat))) (x := .tmp 5) (y := .tmp 10) (k := min (N - 2) xs.length) rfl rfl hx hc hne (by omega)
 refine ⟨r, hr, ?_⟩
 exact vsmall_run S hS.h108 hS.h182 hS.h228 (by omega) hrs (by simp; omega) (small_in (fun z hz => by have := dx z (List.mem_of_mem_drop hz); omega) (by simp; omega))
theorem lead_val {ys : List Int} {N : Nat} (dy : Dig ys) : ∃ t, 0 <= t /\ t < pw (N - 2) /\ val ys = t + pw (N - 2) * val (ys.drop (min (N - 2) ys.length)) := by
 by_cases h : N - 2 <= ys.length
 ·rw [Nat.min_eq_left h]
  have dt : Dig (ys.take (N - 2)) := fun z hz => dy z (List.mem_of_mem_take hz)
  have hv := dt.val
  rw [show (ys.take (N - 2)).length = N - 2 by simp; omega] at hv
  refine ⟨val (ys.take (N - 2)), hv.1, hv.2, ?_⟩
  conv => lhs; rw [← List.take_append_drop (N - 2) ys, val_append]
  rw [show (ys.take (N - 2)).length = N - 2 by simp; omega]
 ·rw [Nat.min_eq_right (by omega), List.drop_of_length_le (Nat.le_refl _)]
  have hv := dy.val
  have := pw_mono (show ys.length <= N - 2 by omega)
  exact ⟨val ys, hv.1, by omega, by simp [val]⟩
theorem lead_small {ys : List Int} {N : Nat} (dy : Dig ys) (hl : ys.length <= N) (hN : 2 <= N) : 0 <= val (ys.drop (min (N - 2) ys.length)) /\ val (ys.drop (min (N - 2) ys.length)) <= 10000000000000000 := by
 have dt : Dig (ys.drop (min (N - 2) ys.length)) := fun z hz => dy z (List.mem_of_mem_drop hz)
 have hv := dt.val
 have := pw_mono (show (ys.drop (min (N - 2) ys.length)).length <= 2 by simp; omega)
 have : pw 2 = 10000000000000000 := by decide
 omega
theorem ex54 (T : List AV) (h : T.length = 54) : T = [T.getD 0 undefA, T.getD 1 undefA, T.getD 2 undefA, T.getD 3 undefA, T.getD 4 undefA, T.getD 5 undefA, T.getD 6 undefA, T.getD 7 undefA, T.getD 8 undefA, T.getD 9 undefA, T.getD 10 undefA, T.getD 11 undefA, T.getD 12 undefA, T.getD 13 undefA, T.getD 14 undefA, T.getD 15 undefA, T.getD 16 undefA, T.getD 17 undefA, T.getD 18 undefA, T.getD 19 undefA, T.getD 20 undefA, T.getD 21 undefA, T.getD 22 undefA, T.getD 23 undefA, T.getD 24 undefA, T.getD 25 undefA, T.getD 26 undefA, T.getD 27 undefA, T.getD 28 undefA, T.getD 29 undefA, T.getD 30 undefA, T.getD 31 undefA, T.getD 32 undefA, T.getD 33 undefA, T.getD 34 undefA, T.getD 35 undefA, T.getD 36 undefA, T.getD 37 undefA, T.getD 38 undefA, T.getD 39 undefA, T.getD 40 undefA, T.getD 41 undefA, T.getD 42 undefA, T.getD 43 undefA, T.getD 44 undefA, T.getD 45 undefA, T.getD 46 undefA, T.getD 47 undefA, T.getD 48 undefA, T.getD 49 undefA, T.getD 50 undefA, T.getD 51 undefA, T.getD 52 undefA, T.getD 53 undefA] := by
 have := expand T
 rw [h] at this
 exact this
theorem mixed_run (hS : OldI S) {H : Heap} {x y : AV} {a b : Int} {xs ys : List Int} (hn : H.n + 20 < lim) (hx : Sl H x xs) (hy : Sl H y ys) (hxl : xs.length <= 1000000) (hyl : ys.length <= 1000000)
  (hxs : Sml xs) (hys : Sml ys) (ha : -100000000 <= a /\ a <= 100000000) (hb : -100000000 <= b /\ b <= 100000000) : Cl (ctx.plus S) 188 [iv a, x, iv b, y] H fun r H' => Mine H H.n r (digits (a * val xs + b * val ys)) H' /\ H'.n <= H.n + 8 := by
 refine cl_of hS.h188 fn188 ?_
 have hT : (ctx.plus S).ty = tget := rfl
 obtain ⟨M, hM⟩ : ∃ M, M = max xs.length ys.length := ⟨_, rfl⟩
 refine ⟨_, len_sl hT (v := x) rfl hx, ?_⟩
 refine ⟨_, len_sl hT (v := y) rfl hy, ?_⟩
 refine ⟨_, max_two (m := xs.length) (n := ys.length) rfl rfl, ?_⟩
 rw [← hM]
 refine ⟨⟨by omega, by omega⟩, ?_⟩
 obtain ⟨N, hN⟩ : ∃ N, N = M + 1 := ⟨_, rfl⟩
 rw [show (M : Int) + 1 = (N : Int) by omega]
 refine ⟨by omega, ⟨by omega, by omega, by omega⟩, ?_⟩
 rw [show ((N : Int)).toNat = N by omega, show (List.replicate N t3.zero.cells).flatten = ints (List.replicate N 0) from ints_zeros _]
 have hp := Heap.get_push (H := H) (b := .cells true 3 (ints (List.replicate N 0))) (by omega)
 have hpn : (H.push (.cells true 3 (ints (List.replicate N 0)))).n = H.n + 1 := rfl
 generalize H.push (.cells true 3 (ints (List.replicate N 0))) = H1 at hp hpn ⊢
 have hk1 : ∀ A, A < H.n -> H1.get A = H.get A := fun A hA => by rw [hp, if_neg (by omega)]
 have hb1 : H1.get H.n = .cells true 3 (ints (List.replicate N 0)) := by rw [hp, if_pos rfl]
 refine ⟨_, len_sl hT (v := x) rfl hx, ?_⟩
 refine ⟨fun m s => ∃ (i : Nat) (n : Int) (H' : Heap) (T : List AV),
  s = ⟨T, H', []⟩ /\ T.length = 54 /\ T.getD 0 undefA = iv a /\ T.getD 1 undefA = x /\ T.getD 2 undefA = iv b /\ T.getD 3 undefA = y /\ T.getD 9 undefA = .sl H.n 0 N N /\ T.getD 21 undefA = x /\ T.getD 22 undefA = iv xs.length /\ T.getD 23 undefA = iv n /\ m = xs.length - i /\ n = i /\ i <= xs.length /\ Upd H1 H.n (.cells true 3 (ints (mulL a (xs.take i) ++ List.replicate (N - i) 0))) H', ⟨xs.length, ?_⟩, ?_⟩
 ·exact ⟨0, _, H1, _, rfl, rfl, rfl, rfl, rfl, rfl, rfl, rfl, rfl, rfl, rfl, rfl, Nat.zero_le _, Upd.refl (by simpa [mulL] using hb1)⟩
 ·rintro m s ⟨i, n, H', T, rfl, hTl, h0t, h1t, h2t, h3t, h9t, h21t, h22t, h23t, hm', rfl, hi, hV⟩
  obtain ⟨J, rfl⟩ : ∃ J : Nat -> AV, T = [iv a, x, iv b, y, J 4, J 5, J 6, J 7, J 8, .sl H.n 0 N N, J 10, J 11, J 12, J 13, J 14, J 15, J 16, J 17, J 18, J 19, J 20, x, iv xs.length, iv i, J 24, J 25, J 26, J 27, J 28, J 29, J 30, J 31, J 32, J 33, J 34, J 35, J 36, J 37, J 38, J 39, J 40, J 41, J 42, J 43, J 44, J 45, J 46, J 47, J 48, J 49, J 50, J 51, J 52, J 53] := ⟨fun i => T.getD i undefA, (ex54 T hTl).trans (by rw [h0t, h1t, h2t, h3t, h9t, h21t, h22t, h23t])⟩
  clear hTl h0t h1t h2t h3t h9t h21t h22t h23t
  have hk : ∀ A, A < H.n -> H'.get A = H.get A := fun A hA => by rw [hV.other A (by omega)]; exact hk1 A hA
  have hn' : H'.n = H.n + 1 := by rw [hV.n]; exact hpn
  have hZl : (mulL a (xs.take i) ++ List.replicate (N - i) 0).length = N := by simp [mulL]; omega
  have hOw : Ow H' (.sl H.n 0 N N) H.n (mulL a (xs.take i) ++ List.replicate (N - i) 0) N := ⟨hV.at_, by omega, .inl ⟨N, rfl, by omega, by omega⟩⟩
  refine ⟨fun hlt => ?_, fun hge => ?_⟩
  ·obtain ⟨e, he⟩ : ∃ e, xs[i]? = some e := ⟨xs[i]'(by omega), List.getElem?_eq_getElem _⟩
   have heB := hxs e (List.mem_of_getElem? he)
   have hfe := mul_bd (a := a) (b := e) (m := 100000000) (n := 100000000) (by omega) (by omega)
   refine ⟨_, idx_sl hT (v := x) (n := i) rfl rfl (hx.mono hk) rfl (by omega), ?_⟩
   refine ⟨_, load_sl hT (hx.mono hk) he, ?_⟩
   refine ⟨⟨by omega, by omega⟩, ?_⟩
   refine ⟨_, idx_sl hT (v := .sl H.n 0 N N) (n := i) rfl rfl hOw.sl rfl (by rw [List.take_of_length_le (by omega)]; omega), ?_⟩
   refine ⟨_, store_ow hT hOw (by omega), ?_⟩
   refine ⟨⟨by omega, by omega⟩, ?_⟩
   refine ⟨xs.length - (i + 1), by omega, i + 1, _, _, _, rfl, rfl, rfl, rfl, rfl, rfl, rfl, rfl, rfl, rfl, rfl, rfl, by omega, ?_⟩
   have hset : (mulL a (xs.take i) ++ List.replicate (N - i) 0).set i (a * e) = mulL a (xs.take (i + 1)) ++ List.replicate (N - (i + 1)) 0 := by
    have hl1 : (mulL a (xs.take i)).length = i := by simp [mulL]; omega
    rw [take_snoc he, mulL_snoc, List.set_append_right _ _ (by omega), hl1, Nat.sub_self, show N - i = (N - (i + 1)) + 1 by omega, List.replicate_succ]
    simp
   rw [← hset]
   exact hV.trans (upd_set (by omega) (by omega))
  ·have hiy : i = xs.length := by omega
   subst hiy
   rw [List.take_length] at hV hOw hZl
   obtain ⟨Z, hZ⟩ : ∃ Z, Z = mulL a xs ++ List.replicate (N - xs.length) (0 : Int) := ⟨_, rfl⟩
   rw [← hZ] at hV hOw hZl
   have hZv : val Z = a * val xs := by rw [hZ, val_append, mulL_val, val_zeros]; omega
   have hZb : ∀ z ∈ Z, -10000000000000000 <= z /\ z <= 10000000000000000 := by
    intro z hz
    rw [hZ] at hz
    rcases List.mem_append.1 hz with h | h
    ·obtain ⟨e, he, rfl⟩ := List.mem_map.1 h
     have heB := hxs e he
     have := mul_bd (a := a) (b := e) (m := 100000000) (n := 100000000) (by omega) (by omega)
     omega
    ·have := (List.mem_replicate.1 h).2; omega
   clear hZ
   refine ⟨_, len_sl hT (v := y) rfl hy, ?_⟩
   refine ⟨fun m s => ∃ (i : Nat) (n : Int) (H2 : Heap) (T : List AV),
    s = ⟨T, H2, []⟩ /\ T.length = 54 /\ T.getD 2 undefA = iv b /\ T.getD 9 undefA = .sl H.n 0 N N /\ T.getD 35 undefA = y /\ T.getD 36 undefA = iv ys.length /\ T.getD 37 undefA = iv n /\ m = ys.length - i /\ n = i /\ i <= ys.length /\ Upd H' H.n (.cells true 3 (ints (addL b Z (ys.take i)))) H2, ⟨ys.length, ?_⟩, ?_⟩
   ·exact ⟨0, _, H', _, rfl, rfl, rfl, rfl, rfl, rfl, rfl, rfl, rfl, Nat.zero_le _, Upd.refl (by rw [List.take_zero, addL_nil]; exact hV.at_)⟩
   ·rintro m s ⟨i, n, H2, T, rfl, hTl, h2t, h9t, h35t, h36t, h37t, hm', rfl, hi, hW⟩
    obtain ⟨J', rfl⟩ : ∃ J : Nat -> AV, T = [J 0, J 1, iv b, J 3, J 4, J 5, J 6, J 7, J 8, .sl H.n 0 N N, J 10, J 11, J 12, J 13, J 14, J 15, J 16, J 17, J 18, J 19, J 20, J 21, J 22, J 23, J 24, J 25, J 26, J 27, J 28, J 29, J 30, J 31, J 32, J 33, J 34, y, iv ys.length, iv i, J 38, J 39, J 40, J 41, J 42, J 43, J 44, J 45, J 46, J 47, J 48, J 49, J 50, J 51, J 52, J 53] := ⟨fun i => T.getD i undefA, (ex54 T hTl).trans (by rw [h2t, h9t, h35t, h36t, h37t])⟩
    clear hTl h2t h9t h35t h36t h37t
    have hk2 : ∀ A, A < H.n -> H2.get A = H.get A := fun A hA => by rw [hW.other A (by omega)]; exact hk A hA
    have hn2 : H2.n = H.n + 1 := by rw [hW.n]; exact hn'
    have hOw2 : Ow H2 (.sl H.n 0 N N) H.n (addL b Z (ys.take i)) N := ⟨hW.at_, by rw [addL_length]; omega, .inl ⟨N, rfl, by omega, by rw [addL_length]; omega⟩⟩
    refine ⟨fun hlt => ?_, fun hge2 => ?_⟩
    ·obtain ⟨e, he⟩ : ∃ e, ys[i]? = some e := ⟨ys[i]'(by omega), List.getElem?_eq_getElem _⟩
     obtain ⟨z, hz⟩ : ∃ z, Z[i]? = some z := ⟨Z[i]'(by omega), List.getElem?_eq_getElem _⟩
     have heB := hys e (List.mem_of_getElem? he)
     have hzB := hZb z (List.mem_of_getElem? hz)
     have hfe := mul_bd (a := b) (b := e) (m := 100000000) (n := 100000000) (by omega) (by omega)
     have hgz : (addL b Z (ys.take i))[i]? = some z := addL_get b i Z (ys.take i) z hz (by simp; omega)
     refine ⟨_, idx_sl hT (v := y) (n := i) rfl rfl (hy.mono hk2) rfl (by omega), ?_⟩
     refine ⟨_, load_sl hT (hy.mono hk2) he, ?_⟩
     refine ⟨_, idx_sl hT (v := .sl H.n 0 N N) (n := i) rfl rfl hOw2.sl rfl (by simp [addL_length]; omega), ?_⟩
     refine ⟨_, load_sl hT hOw2.sl (x := z) (by rw [List.getElem?_take, if_pos (by omega)]; exact hgz), ?_⟩
     refine ⟨⟨by omega, by omega⟩, ?_⟩
     refine ⟨⟨by omega, by omega⟩, ?_⟩
     refine ⟨_, idx_sl hT (v := .sl H.n 0 N N) (n := i) rfl rfl hOw2.sl rfl (by simp [addL_length]; omega), ?_⟩
     refine ⟨_, store_ow hT hOw2 (by omega), ?_⟩
     refine ⟨⟨by omega, by omega⟩, ?_⟩
     refine ⟨ys.length - (i + 1), by omega, i + 1, _, _, _, rfl, rfl, rfl, rfl, rfl, rfl, rfl, rfl, rfl, by omega, ?_⟩
     rw [take_snoc he, addL_snoc b (ys.take i) Z e z (by rw [List.length_take, Nat.min_eq_left (by omega)]; exact hz), List.length_take, Nat.min_eq_left (by omega)]
     exact hW.trans (upd_set (by omega) (by omega))
    ·have hiy : i = ys.length := by omega
     subst hiy
     rw [List.take_length] at hW hOw2
     have hM2 : Mine H H.n (.sl H.n 0 N N) ((addL b Z ys).take N) H2 := Mine.fresh_refl (by omega) hk2 hOw2 (Nat.le_refl _)
     rw [List.take_of_length_le (by rw [addL_length]; omega)] at hM2
     refine (settle_old S hS.o (by omega) (by rw [addL_length]; omega) hM2 ?_).mono ?_
     ·have key : ∀ (zs us : List Int), (∀ z ∈ zs, -10000000000000000 <= z /\ z <= 10000000000000000) -> Sml us -> ∀ w ∈ addL b zs us, -20000000000000000 <= w /\ w <= 20000000000000000 := by
       intro zs
       induction zs with
       | nil => intro us _ _ w hw; cases us <;> cases hw
       | cons z zs ih =>
        intro us hz hu w hw
        cases us with
        | nil =>
         rw [addL_nil] at hw
         have := hz w hw
         omega
        | cons u us =>
         simp only [addL, List.mem_cons] at hw
         rcases hw with rfl | hw
         ·have h1 := hz z (by simp)
          have h2 := hu u (by simp)
          have := mul_bd (a := b) (b := u) (m := 100000000) (n := 100000000) (by omega) (by omega)
          omega
         ·exact ih us (fun a ha => hz a (by simp [ha])) (fun a ha => hu a (by simp [ha])) w hw
      intro w hw
      have := key Z ys hZb hys w hw
      exact ⟨by omega, by omega⟩
     ·rintro r H3 ⟨h1, h2⟩
      rw [addL_val b Z ys (by omega), hZv] at h1
      have h3 : Mine H H.n r (digits (a * val xs + b * val ys)) H3 /\ H3.n <= H.n + 8 := ⟨h1, by omega⟩
      exact h3
end Go.PI

