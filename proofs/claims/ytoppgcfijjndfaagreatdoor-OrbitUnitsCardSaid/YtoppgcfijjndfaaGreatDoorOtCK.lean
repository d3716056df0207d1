/- Own work of the verifier: OrRp. -/
import Derived.Test.YtoppgcfijjndfaaGreatDoorOtCJ
import Derived.Test.YtoppgcfijjndfaaGreatDoorOtAW
import Derived.Test.YtoppgcfijjndfaaGreatDoorOtCI
set_option linter.all false
set_option exponentiation.threshold 3000
set_option linter.deprecated false
/- THE LIBRARY's CONTRACT AS A SUMMARY; the table that knows it and the closed examples. -/
open Go.Proofs
namespace Go.PI
open Go.RowKit
set_option maxRecDepth 100000
/-- what a call comes to, whatever is watched -/
theorem callsIn_wd {P : Program} {f : FuncId} {args : Array Value} {w : World} {R : Ending → World → Prop} (h : Calls P f args w R) {F : Fence} {n : Nat} (hF : Wd F) : CallsIn F n P f args w R := by
  refine ⟨hF.1 f, fun cs _ => ?_⟩
  obtain ⟨e, w', fr, r, s, x⟩ := h cs
  have hm : ∀ m, Machine.fenced P F m := fun m g _ => ⟨fun ha => (by rw [hF.2.2] at ha; cases ha), .inl (hF.1 _), fun _ _ => hF.1 _, fun d hd => (by rw [hF.2.1] at hd; cases hd)⟩
  refine ⟨e, w', fr, r, ?_, x⟩
  cases e with
  | returned v => exact (StepsIn.of_steps s).mono fun m _ => hm m
  | panicked c => exact (StepsIn.of_steps s).mono fun m _ => hm m
  | outgrown => exact s
theorem effR_below {μ : M} {H : Heap} {w w' : World} (hH : HR μ H w) (hb : Below w.heap.size w w') {t : ByteArray} : EffR μ H w (.str t) H (.string t) w' := by
  have h0 : HR (fun _ => none) ⟨0, .nil⟩ w' := ⟨by simp [PI.lim], fun _ _ => rfl, fun A bi hl hm => (by cases hm), fun A B a b _ _ _ hm => (by cases hm)⟩
  have h1 : EffR (fun _ => none) ⟨0, .nil⟩ w (.str t) ⟨0, .nil⟩ (.string t) w' := ⟨fun _ => none, .str _, h0, ⟨M.le.refl _, fun _ _ => rfl, Nat.le_refl _, hb.os, hb.tape, hb.output, hb.size,
    fun k hk ho => ⟨hb.block k hk, ho⟩, fun A hl ho => ⟨Heap.lt_of_get (fun e => by rw [e] at hl; cases hl), rfl⟩⟩⟩
  exact frame_closed hH (fun μ1 h => by cases h; exact .str _) h1
def repS (s : ByteArray) (n : Nat) : ByteArray := ⟨(Lib.repeatL s.data.toList n).toArray⟩
def sRep (us : List AV) (H : Heap) : Option (AV × Heap) :=
  match us with
  | [.str s, .int .i64 n] => if 0 ≤ n ∧ n ≤ 201 ∧ s.size ≤ 1 then some (.str (repS s n.toNat), H) else none
  | _ => none
theorem rep_sum : SumR Tryz.prog 173 sRep := by
  intro us H v H' hS μ args w ha hH
  unfold sRep at hS
  split at hS
  · rename_i s n
    split at hS
    · rename_i hc
      obtain ⟨c1, c2, c3⟩ := hc
      cases hS
      have hargs : args = #[.string s, .int .i64 n] := by
        apply Array.ext'
        generalize args.toList = l at ha
        cases ha with
        | cons q1 q2 => cases q2 with
          | cons q3 q4 => cases q4; cases q1; cases q3; rfl
      subst hargs
      obtain ⟨k, rfl⟩ : ∃ k : Nat, n = k := ⟨n.toNat, by omega⟩
      have hk : k ≤ 201 := by omega
      have hlen : s.size * k ≤ 140737488355328 := Nat.le_trans (Nat.mul_le_mul c3 hk) (by decide)
      obtain ⟨fn', f1, f2, f3, f4, f5⟩ := ctx_ok.fn 173 c173 (by kernel_rfl)
      have f5' : ¬ fn'.name = "runtime.NumGoroutine" := by simpa using f5
      refine .inr ⟨by simp [callFunc, f1, f5', f4], fun F m hF => (callsIn_wd (Tryz.repeat_gives s k w (by omega) hlen) hF).mono ?_⟩
      rintro e w' ⟨rfl, hb⟩
      exact ⟨_, rfl, effR_below hH hb⟩
    · cases hS
  · cases hS
def SRp : FuncId → Option (List AV → Heap → Option (AV × Heap)) := fun f => if f = 15 then some sTrue else if f = 173 then some sRep else none
noncomputable def ctxB : Ctx := ctx.plus SRp
theorem ctxB_fine : Ctx.Ok Tryz.prog ctxB := by
  obtain ⟨H, h⟩ := isTrue_some run15
  refine Ctx.plus_ok2 (C := ctx) ctx_ok (T := SRp) fun f s hf => ?_
  unfold SRp at hf
  split at hf
  · rename_i he
    subst he
    cases hf
    exact .inr (closed_true ctx_ok (quick_sim h))
  · split at hf
    · rename_i he
      subst he
      cases hf
      exact .inr rep_sum
    · cases hf
theorem oldB : OldO SRp := fun f hf => by
  unfold SRp
  rw [if_neg fun e => hf (.inl e), if_neg fun e => hf (.inr e)]
theorem hB15 : Ct (ctx.plus SRp) 15 [] 0 fun r => r = .bool true := by
  intro H W avs hw hr hn
  cases hr
  refine Cl.of_sum (v := .bool true) (H' := H) rfl ?_
  exact ⟨_, rfl, .bool _, KpH.refl _ _⟩
theorem wl_rep {s : ByteArray} {c : Nat} (h : wl s = [c]) : ∀ n, wl (repS s n) = List.replicate n c
  | 0 => rfl
  | n + 1 => by
    have ih := wl_rep h n
    unfold wl repS at ih ⊢
    unfold wl at h
    show List.map _ (s.data.toList ++ Lib.repeatL s.data.toList n) = _
    rw [List.map_append, h, List.replicate_succ]
    exact congrArg (c :: ·) ih
theorem repB : RepOk SRp := by
  intro n c hn hc H W avs hw hr hn2
  have hs : (lone c).size = 1 := by unfold lone; split <;> rfl
  have hl : wl (lone c) = [c] := by
    rcases hc with rfl | rfl
    · rfl
    · rfl
  cases hr with
  | cons h1 h2 =>
    cases h2 with
    | cons h3 h4 =>
      cases h4
      cases h1
      cases h3
      refine Cl.of_sum (v := .str (repS (lone c) n)) (H' := H) ?_ ?_
      · show sRep [.str (lone c), .int .i64 n] H = _
        unfold sRep
        simp only
        rw [if_pos ⟨by omega, by omega, by omega⟩, Int.toNat_natCast]
      · exact ⟨_, ⟨_, rfl, wl_rep hl n⟩, .str _, KpH.refl _ _⟩
end Go.PI
