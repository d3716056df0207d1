/- Own work of the verifier: PiTab2. -/
import Derived.Test.YtgmhmahdmbdngaaGreatDoorGvAZ
import Derived.Test.YtgmhmahdmbdngaaGreatDoorGvBC
set_option linter.all false
set_option linter.deprecated false
open Go.Proofs
namespace Go.PI
theorem frame_closed {μ : M} {H H1 : Heap} {w w' : World} {v : AV} {u : Value} (hH : HR μ H w) (hv : ∀ μ1, VR μ1 v u -> VR μ v u) (h : EffR (fun _ => none) ⟨0, .nil⟩ w v H1 u w') : EffR μ H w v H u w' := by
 obtain ⟨μ1, h1, h2, hF⟩ := h
 have hk : ∀ k, k < w.heap.size -> w'.heap[k]? = w.heap[k]? := fun k hk => (hF.keep k hk (by rintro ⟨A, a, -, hm, -⟩; cases hm)).1
 refine ⟨μ, hv _ h1, ⟨hH.lim, hH.dom, fun A bi hA hm => ?_, hH.inj⟩, M.le.refl _, fun _ _ => rfl, Nat.le_refl _, hF.os, hF.tape, hF.output, hF.size, fun k hk' ho => ⟨hk k hk', ho⟩, fun A hl ho => ⟨Heap.lt_of_get (fun e => by rw [e] at hl; cases hl), rfl⟩⟩
 obtain ⟨g1, g2⟩ := hH.blk A bi hA hm
 refine ⟨Nat.lt_of_lt_of_le g1 hF.size, ?_⟩
 generalize H.get A = x at g2
 cases x with
 | dead => trivial
 | dfr => exact (hk _ g1).trans g2
 | cells rw ty cs =>
  obtain ⟨carr, fz, q1, q2⟩ := g2
  exact ⟨carr, fz, (hk _ g1).trans q1, q2⟩
 | loop L =>
  obtain ⟨lp, q1, q2⟩ := g2
  exact ⟨lp, (hk _ g1).trans q1, q2⟩
def SumR (P : Program) (f : FuncId) (S : List AV -> Heap -> Option (AV × Heap)) : Prop := ∀ us H v H', S us H = some (v, H') -> ∀ μ (args : Array Value) w, VRs μ us args.toList -> HR μ H w -> CallR P μ H w f args v H'
theorem Ctx.plus_ok2 {P : Program} {C : Ctx} (hC : Ctx.Ok P C) {T : FuncId -> Option (List AV -> Heap -> Option (AV × Heap))} (h : ∀ f S, T f = some S -> C.sum f = some S ∨ SumR P f S) : Ctx.Ok P (C.plus T) where
 ty := hC.ty
 fn := hC.fn
 same := hC.same
 noZero := hC.noZero
 mixed := hC.mixed
 sum := by
  intro f S us H v H' hf hS μ args w ha hH
  rcases h f S hf with h | h
  ·exact hC.sum f S us H v H' h hS μ args w ha hH
  ·exact h us H v H' hS μ args w ha hH
theorem closed_true {P : Program} {C : Ctx} (hC : Ctx.Ok P C) {n : Nat} {f : FuncId} {H1 : Heap} (h : call C n f [] ⟨0, .nil⟩ = some (.bool true, H1)) : SumR P f fun us H => match us with
  | [] => some (.bool true, H)
  | _ => none := by
 intro us H v H' hS μ args w ha hH
 cases us with
 | cons a b => cases hS
 | nil =>
  cases hS
  have h0 : HR (fun _ => none) ⟨0, .nil⟩ w := ⟨by simp [PI.lim], fun _ _ => rfl, fun A bi hl hm => (by cases hm), fun A B a b _ _ _ hm => (by cases hm)⟩
  have ha0 : VRs (fun _ => none) [] args.toList := by
   generalize args.toList = l at ha
   cases ha
   exact .nil
  have hb : ∀ u, (∀ μ1, VR μ1 (.bool true) u -> VR μ (.bool true) u) := fun u μ1 h => by cases h; exact .bool _
  rcases callF_sim hC (sound hC n) h ha0 h0 with ⟨u, w', h1, h2⟩ | ⟨h1, h2⟩
  ·exact .inl ⟨u, w', h1, frame_closed hH (hb u) h2⟩
  ·refine .inr ⟨h1, fun F m hF => (h2 F m hF).mono ?_⟩
   rintro e w' ⟨u, rfl, hE⟩
   exact ⟨u, rfl, frame_closed hH (hb u) hE⟩
def sTrue (us : List AV) (H : Heap) : Option (AV × Heap) :=
 match us with
 | [] => some (.bool true, H)
 | _ => none
def S2 : FuncId -> Option (List AV -> Heap -> Option (AV × Heap)) := fun f => if f = 20 then some sTrue else S1 f
noncomputable def ctx2 : Ctx := ctx.plus S2
theorem ctx2_ok {n : Nat} {H1 : Heap} (h : call ctx1 n 20 [] ⟨0, .nil⟩ = some (.bool true, H1)) : Ctx.Ok Tryz.prog ctx2 := by
 refine Ctx.plus_ok2 (C := ctx.plus S1) ctx1_ok (T := S2) fun f s hf => ?_
 unfold S2 at hf
 split at hf
 ·rename_i he
  subst he
  cases hf
  exact .inr (closed_true ctx1_ok h)
 ·exact .inl hf
def isTrue (x : Option (AV × Heap)) : Bool := match x with | some (.bool true, _) => true | _ => false
theorem isTrue_some {x : Option (AV × Heap)} (h : isTrue x = true) : ∃ H, x = some (.bool true, H) := by
 unfold isTrue at h
 split at h
 ·exact ⟨_, rfl⟩
 ·cases h
end Go.PI
