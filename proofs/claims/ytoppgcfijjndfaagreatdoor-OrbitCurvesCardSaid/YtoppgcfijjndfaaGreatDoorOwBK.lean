/- Own work of the verifier: OrRq. -/
import Derived.Test.YtoppgcfijjndfaaGreatDoorOwBJ
import Derived.Test.YtoppgcfijjndfaaGreatDoorOwBH
import Derived.Test.YtoppgcfijjndfaaGreatDoorOwBC
set_option linter.all false
set_option exponentiation.threshold 3000
set_option linter.deprecated false
/- THE LIBRARY's CONTRACT OF A PRODUCT AS A SUMMARY; the table that knows it and the closed examples. -/
namespace Go.Proofs
open Go.Shelf Go.RowKit
theorem Tryz.fMul : Tryz.laysRepeat_ren.f 212 = 207 := by kernel_rfl
theorem Tryz.mul_gives (x y : Nat) (hx : x < 18446744073709551616) (hy : y < 18446744073709551616) (w : World) :
    Calls Tryz.prog 207 #[.int .u64 x, .int .u64 y] w fun e w' => e = .returned (.tuple #[.int .u64 ((x * y / 18446744073709551616 : Nat) : Int), .int .u64 ((x * y % 18446744073709551616 : Nat) : Int)]) ∧ w' = w := by
  have h := Any.bits_Mul (ρ := Tryz.laysRepeat_ren) { Tryz.laysRepeat with } x y hx hy w
  rw [Tryz.fMul] at h
  exact h
end Go.Proofs
open Go.Proofs
namespace Go.PI
open Go.RowKit
set_option maxRecDepth 100000
theorem callsIn_wd {P : Program} {f : FuncId} {args : Array Value} {w : World} {R : Ending → World → Prop} (h : Calls P f args w R) {F : Fence} {n : Nat} (hF : Wd F) : CallsIn F n P f args w R := by
  refine ⟨hF.1 f, fun cs _ => ?_⟩
  obtain ⟨e, w', fr, r, s, x⟩ := h cs
  have hm : ∀ m, Machine.fenced P F m := fun m g _ => ⟨fun ha => (by rw [hF.2.2] at ha; cases ha), .inl (hF.1 _), fun _ _ => hF.1 _, fun d hd => (by rw [hF.2.1] at hd; cases hd)⟩
  refine ⟨e, w', fr, r, ?_, x⟩
  cases e with
  | returned v => exact (StepsIn.of_steps s).mono fun m _ => hm m
  | panicked c => exact (StepsIn.of_steps s).mono fun m _ => hm m
  | outgrown => exact s
def sMul (us : List AV) (H : Heap) : Option (AV × Heap) :=
  match us with
  | [.int .u64 x, .int .u64 n] => if x = 1 ∧ 0 ≤ n ∧ n ≤ 2000 then some (.tup [.int .u64 (0 : Nat), .int .u64 n], H) else none
  | _ => none
theorem mul_sum : SumR Tryz.prog 207 sMul := by
  intro us H v H' hS μ args w ha hH
  unfold sMul at hS
  split at hS
  · rename_i x n
    split at hS
    · rename_i hc
      obtain ⟨rfl, c2, c3⟩ := hc
      cases hS
      have hargs : args = #[.int .u64 1, .int .u64 n] := by
        apply Array.ext'
        generalize args.toList = l at ha
        cases ha with
        | cons q1 q2 => cases q2 with
          | cons q3 q4 => cases q4; cases q1; cases q3; rfl
      subst hargs
      obtain ⟨k, rfl⟩ : ∃ k : Nat, n = k := ⟨n.toNat, by omega⟩
      have hk : k ≤ 2000 := by omega
      obtain ⟨fn', f1, f2, f3, f4, f5⟩ := ctx_ok.fn 207 c207 (by kernel_rfl)
      have f5' : ¬ fn'.name = "runtime.NumGoroutine" := by simpa using f5
      have hm := Tryz.mul_gives 1 k (by omega) (by omega) w
      rw [Nat.one_mul, Nat.div_eq_of_lt (show k < 18446744073709551616 by omega), Nat.mod_eq_of_lt (show k < 18446744073709551616 by omega)] at hm
      refine .inr ⟨by simp [callFunc, f1, f5', f4], fun F m hF => (callsIn_wd hm hF).mono ?_⟩
      rintro e w' ⟨rfl, rfl⟩
      exact ⟨_, rfl, μ, .tup (.cons (.int _ _) (.cons (.int _ _) .nil)), hH, Fr.refl _ _ _⟩
    · cases hS
  · cases hS
def SRq : FuncId → Option (List AV → Heap → Option (AV × Heap)) := fun f => if f = 15 then some sTrue else if f = 207 then some sMul else none
noncomputable def ctxQ : Ctx := ctx.plus SRq
theorem ctxQ_fine : Ctx.Ok Tryz.prog ctxQ := by
  obtain ⟨H, h⟩ := isTrue_some run15
  refine Ctx.plus_ok2 (C := ctx) ctx_ok (T := SRq) fun f s hf => ?_
  unfold SRq at hf
  split at hf
  · rename_i he
    subst he
    cases hf
    exact .inr (closed_true ctx_ok (quick_sim h))
  · split at hf
    · rename_i he
      subst he
      cases hf
      exact .inr mul_sum
    · cases hf
theorem oldQ : OldO SRq := fun f hf => by
  unfold SRq
  rw [if_neg fun e => hf (.inl e), if_neg fun e => hf (.inr (.inr e))]
theorem hQ15 : Ct (ctx.plus SRq) 15 [] 0 fun r => r = .bool true := by
  intro H W avs hw hr hn
  cases hr
  refine Cl.of_sum (v := .bool true) (H' := H) rfl ?_
  exact ⟨_, rfl, .bool _, KpH.refl _ _⟩
theorem mulQ : MulOk SRq := by
  intro n hn H W avs hw hr hn2
  cases hr with
  | cons h1 h2 =>
    cases h2 with
    | cons h3 h4 =>
      cases h4
      cases h1
      cases h3
      refine Cl.of_sum (v := .tup [.int .u64 (0 : Nat), .int .u64 n]) (H' := H) ?_ ⟨_, rfl, .tup (.cons (.int _ _) (.cons (.int _ _) .nil)), KpH.refl _ _⟩
      show (if ((1 : Nat) : Int) = 1 ∧ (0 : Int) ≤ (n : Int) ∧ (n : Int) ≤ 2000 then some (AV.tup [.int .u64 (0 : Nat), .int .u64 (n : Int)], H) else none) = _
      rw [if_pos ⟨rfl, by omega, by omega⟩]
end Go.PI
