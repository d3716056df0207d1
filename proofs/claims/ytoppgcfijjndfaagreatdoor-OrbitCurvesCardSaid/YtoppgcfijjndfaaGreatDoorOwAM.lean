/- Own work of the verifier: PiMono2 PiVc PiTabG. -/
import Derived.Test.YtoppgcfijjndfaaGreatDoorOwAI
import Derived.Test.YtoppgcfijjndfaaGreatDoorOwAL
set_option linter.all false
set_option exponentiation.threshold 3000
set_option linter.deprecated false
/- MORE FUEL, THE SAME RUN. -/
namespace Go.PI
variable {C : Ctx} {a b : Ih}
theorem stepE_mono (h : Ih.Le a b) {ops : List Oper} {o : Oper} {T : List AV} {H : Heap} {r : List AV × Heap} (e : stepE C a ops o T H = some r) : stepE C b ops o T H = some r := by
  unfold stepE at e ⊢
  split at e
  · rename_i hw
    rw [if_pos hw]
    cases hx : execE C a T o H with
    | none => rw [hx] at e; cases e
    | some x => rw [hx] at e; rw [execE_mono h hx]; exact e
  · rename_i hw
    rw [if_neg hw]; exact e
theorem runE_mono (h : Ih.Le a b) {ops : List Oper} : ∀ {rest : List Oper} {T : List AV} {H : Heap} {r : List AV × Heap}, runE C a ops rest T H = some r → runE C b ops rest T H = some r
  | [], _, _, _, e => e
  | o :: rest, T, H, r, e => by
    unfold runE at e ⊢
    cases hx : stepE C a ops o T H with
    | none => rw [hx] at e; cases e
    | some x => rw [hx] at e; rw [stepE_mono h hx]; exact runE_mono h e
theorem traceE_mono (h : Ih.Le a b) {ops : List Oper} : ∀ {rest : List Oper} {T : List AV} {H : Heap} {r : List (List AV × Heap)}, traceE C a ops rest T H = some r → traceE C b ops rest T H = some r
  | [], _, _, _, e => e
  | o :: rest, T, H, r, e => by
    unfold traceE at e ⊢
    cases hx : stepE C a ops o T H with
    | none => rw [hx] at e; cases e
    | some x =>
      rw [hx] at e; rw [stepE_mono h hx]
      try simp only at e ⊢
      cases hy : traceE C a ops rest x.1 x.2 with
      | none => rw [hy] at e; cases e
      | some y => rw [hy] at e; rw [traceE_mono h hy]; exact e
theorem rangeF_mono2 (h : Ih.Le a b) {rd : Option Nat} {f : Operand} {ps : Array Tmp} {assign body : Code} {s : St} {r : Ex × St} (e : rangeF C a rd f ps assign body s = some r) : rangeF C b rd f ps assign body s = some r := by
  unfold rangeF at e ⊢
  split at e
  · cases e
  · rename_i hl
    rw [if_neg hl]
    split at e
    · rename_i g first caps hf
      try rw [hf]
      try simp only at e ⊢
      split at e
      · cases e
      · rename_i hg
        rw [if_neg hg]
        split at e
        · rename_i D H1 Ds hs
          try rw [hs]
          try simp only at e ⊢
          split at e
          · rename_i v H3 hc
            rw [callF_mono h hc]
            try simp only at e ⊢
            split at e
            · rename_i lp hlp
              try rw [hlp]
              try simp only at e ⊢
              split at e
              · cases e
              · rename_i hst
                rw [if_neg hst]
                split at e
                · rename_i hp; (try rw [hp]); exact e
                · rename_i c hp; (try rw [hp]); exact h _ _ _ _ e
            · cases e
          · cases e
        · cases e
    · cases e
theorem loopF_mono (h : Ih.Le a b) {rd : Option Nat} {c : Code} : ∀ {k k' : Nat} {s : St} {r : Ex × St}, k ≤ k' → loopF a rd c k s = some r → loopF b rd c k' s = some r
  | 0, _, _, _, _, e => by cases e
  | k + 1, k', s, r, hk, e => by
    obtain ⟨k', rfl⟩ : ∃ j, k' = j + 1 := ⟨k' - 1, by omega⟩
    unfold loopF at e ⊢
    split at e
    · rename_i s' hs
      rw [h _ _ _ _ hs]
      exact loopF_mono h (by omega) e
    · rename_i hne
      rw [h _ _ _ _ e]
      cases hr : r with
      | mk x s' => cases x <;> first | rfl | (exact absurd (e.trans (by rw [hr])) (hne s'))
theorem evF_mono (h : Ih.Le a b) {k k' : Nat} (hk : k ≤ k') {rd : Option Nat} {c : Code} {s : St} {r : Ex × St} (e : evF C a k rd c s = some r) : evF C b k' rd c s = some r := by
  cases c <;> simp only [evF] at e ⊢ <;> try exact e
  case seq x y =>
    split at e
    · rename_i s' hs; rw [h _ _ _ _ hs]; exact h _ _ _ _ e
    · rename_i hne
      rw [h _ _ _ _ e]
      cases hr : r with
      | mk x s' => cases x <;> first | rfl | (exact absurd (e.trans (by rw [hr])) (hne s'))
  case cond x y z =>
    split at e
    · rename_i hc; (try rw [hc]); exact h _ _ _ _ e
    · rename_i hc; (try rw [hc]); exact h _ _ _ _ e
    · cases e
  case block id x =>
    split at e
    · rename_i i s' hs; rw [h _ _ _ _ hs]; exact e
    · rename_i hne
      rw [h _ _ _ _ e]
      cases hr : r with
      | mk x s' => cases x <;> first | rfl | (exact absurd (e.trans (by rw [hr])) (hne _ s'))
  case loop x => exact loopF_mono h hk e
  case region id ops draw =>
    split at e
    · rename_i hd
      rw [if_pos hd]
      split at e
      · rename_i tr ht; rw [traceE_mono h ht]; exact e
      · cases e
    · rename_i hd
      rw [if_neg hd]
      split at e
      · rename_i T' H' ht; rw [runE_mono h ht]; exact e
      · cases e
  case rangeFunc f ps as bd => exact rangeF_mono2 h e
theorem ev_succ (n : Nat) : Ih.Le (ev C n) (ev C (n + 1)) := by
  induction n with
  | zero => intro rd c s r e; cases e
  | succ n ih => intro rd c s r e; exact evF_mono ih (Nat.le_succ n) e
theorem ev_mono {m n : Nat} (h : m ≤ n) : Ih.Le (ev C m) (ev C n) := by
  induction h with
  | refl => exact fun _ _ _ _ e => e
  | step _ ih => exact fun rd c s r e => ev_succ _ rd c s r (ih rd c s r e)
end Go.PI
/- WHAT IS TO BE SHOWN OF A PIECE OF CODE, COMPUTED FROM THE CODE. -/
namespace Go.PI
def Cl (C : Ctx) (g : FuncId) (as : List AV) (H : Heap) (Q : AV → Heap → Prop) : Prop := ∃ n v H', call C n g as H = some (v, H') ∧ Q v H'
theorem Cl.mono {C : Ctx} {g : FuncId} {as : List AV} {H : Heap} {Q R : AV → Heap → Prop} (h : Cl C g as H Q) (k : ∀ v H', Q v H' → R v H') : Cl C g as H R := by
  obtain ⟨n, v, H', h1, h2⟩ := h
  exact ⟨n, v, H', h1, k _ _ h2⟩
theorem Cl.of_sum {C : Ctx} {g : FuncId} {as : List AV} {H H' : Heap} {v : AV} {Q : AV → Heap → Prop} (h : sumE C g as H = some (v, H')) (hq : Q v H') : Cl C g as H Q :=
  ⟨0, v, H', by simp [call, callF, h], hq⟩
def In64 (n : Int) : Prop := -9223372036854775808 ≤ n ∧ n < 9223372036854775808
theorem wrap64 {n : Int} (h : In64 n) : IntKind.wrap .i64 n = n := by
  unfold In64 at h
  simp only [IntKind.wrap, IntKind.signed, IntKind.bits]
  simp
  omega
def vInt (op : BinOp) (m n : Int) (K : AV → Prop) : Prop :=
  match op with
  | .add => In64 (m + n) ∧ K (.int .i64 (m + n))
  | .sub => In64 (m - n) ∧ K (.int .i64 (m - n))
  | .mul => In64 (m * n) ∧ K (.int .i64 (m * n))
  | .quo => (n ≠ 0 ∧ In64 (m.tdiv n)) ∧ K (.int .i64 (m.tdiv n))
  | .rem => n ≠ 0 ∧ K (.int .i64 (m.tmod n))
  | .eql => (m = n → K (.bool true)) ∧ (m ≠ n → K (.bool false))
  | .neq => (m ≠ n → K (.bool true)) ∧ (m = n → K (.bool false))
  | .lss => (m < n → K (.bool true)) ∧ (n ≤ m → K (.bool false))
  | .leq => (m ≤ n → K (.bool true)) ∧ (n < m → K (.bool false))
  | .gtr => (n < m → K (.bool true)) ∧ (m ≤ n → K (.bool false))
  | .geq => (n ≤ m → K (.bool true)) ∧ (m < n → K (.bool false))
  | _ => False
theorem vInt_ok {op : BinOp} {m n : Int} {K : AV → Prop} (h : vInt op m n K) : ∃ v, intBin op .i64 m n = some v ∧ K v := by
  cases op <;> simp only [vInt] at h <;> simp only [intBin] <;> try (exact h.elim)
  · exact ⟨_, by rw [wrap64 h.1], h.2⟩
  · exact ⟨_, by rw [wrap64 h.1], h.2⟩
  · exact ⟨_, by rw [wrap64 h.1], h.2⟩
  · exact ⟨_, by rw [if_neg h.1.1, wrap64 h.1.2], h.2⟩
  · exact ⟨_, by rw [if_neg h.1], h.2⟩
  · by_cases e : m = n
    · exact ⟨_, by simp [e], h.1 e⟩
    · exact ⟨_, by simp [e], h.2 e⟩
  · by_cases e : m = n
    · exact ⟨_, by simp [e], h.2 e⟩
    · exact ⟨_, by simp [e], h.1 e⟩
  · by_cases e : m < n
    · exact ⟨_, by simp [e], h.1 e⟩
    · exact ⟨_, by simp [e], h.2 (by omega)⟩
  · by_cases e : m ≤ n
    · exact ⟨_, by simp [e], h.1 e⟩
    · exact ⟨_, by simp [e], h.2 (by omega)⟩
  · by_cases e : n < m
    · exact ⟨_, by simp [e], h.1 e⟩
    · exact ⟨_, by simp [e], h.2 (by omega)⟩
  · by_cases e : n ≤ m
    · exact ⟨_, by simp [e], h.1 e⟩
    · exact ⟨_, by simp [e], h.2 (by omega)⟩
theorem lastOf_cons (x : List AV × Heap) {tr : List (List AV × Heap)} {y : List AV × Heap} (h : lastOf tr = some y) : lastOf (x :: tr) = some y := by
  cases tr with
  | nil => cases h
  | cons a b => exact h
def Runs (C : Ctx) (rd : Option Nat) (c : Code) (s : St) (Q : Ex → St → Prop) : Prop := ∃ n e s', ev C n rd c s = some (e, s') ∧ Q e s'
theorem Runs.mono {C : Ctx} {rd : Option Nat} {c : Code} {s : St} {Q R : Ex → St → Prop} (h : Runs C rd c s Q) (k : ∀ e s', Q e s' → R e s') : Runs C rd c s R := by
  obtain ⟨n, e, s', h1, h2⟩ := h
  exact ⟨n, e, s', h1, k _ _ h2⟩
end Go.PI
/- A CALL WITHOUT ARGUMENTS that was seen to end true, as a summary. -/
namespace Go.PI
theorem frame_closed {μ : M} {H H1 : Heap} {w w' : World} {v : AV} {u : Value} (hH : HR μ H w) (hv : ∀ μ1, VR μ1 v u → VR μ v u) (h : EffR (fun _ => none) ⟨0, .nil⟩ w v H1 u w') : EffR μ H w v H u w' := by
  obtain ⟨μ1, h1, h2, hF⟩ := h
  have hk : ∀ k, k < w.heap.size → w'.heap[k]? = w.heap[k]? := fun k hk => (hF.keep k hk (by rintro ⟨A, a, -, hm, -⟩; cases hm)).1
  refine ⟨μ, hv _ h1, ⟨hH.lim, hH.dom, fun A bi hA hm => ?_, hH.inj⟩, M.le.refl _, fun _ _ => rfl, Nat.le_refl _, hF.os, hF.tape, hF.output, hF.size, fun k hk' ho => ⟨hk k hk', ho⟩, fun A hl ho => ⟨Heap.lt_of_get (fun e => by rw [e] at hl; cases hl), rfl⟩⟩
  obtain ⟨g1, g2⟩ := hH.blk A bi hA hm
  refine ⟨Nat.lt_of_lt_of_le g1 hF.size, ?_⟩
  generalize H.get A = x at g2
  cases x with
  | dead => trivial
  | dfr => exact (hk _ g1).trans g2
  | cells rw ty cs =>
    obtain ⟨carr, fz, q1, q2⟩ := g2
    exact ⟨carr, fz, (hk _ g1).trans q1, q2⟩
  | loop L =>
    obtain ⟨lp, q1, q2⟩ := g2
    exact ⟨lp, (hk _ g1).trans q1, q2⟩
  | map k es =>
    obtain ⟨ms, clock, q1, q2⟩ := g2
    exact ⟨ms, clock, (hk _ g1).trans q1, q2⟩
  | smap es =>
    obtain ⟨ms, clock, q1, q2⟩ := g2
    exact ⟨ms, clock, (hk _ g1).trans q1, q2⟩
  | siter s pos => exact ⟨g2.1, (hk _ g1).trans g2.2⟩
def SumR (P : Program) (f : FuncId) (S : List AV → Heap → Option (AV × Heap)) : Prop := ∀ us H v H', S us H = some (v, H') → ∀ μ (args : Array Value) w, VRs μ us args.toList → HR μ H w → CallR P μ H w f args v H'
theorem Ctx.plus_ok2 {P : Program} {C : Ctx} (hC : Ctx.Ok P C) {T : FuncId → Option (List AV → Heap → Option (AV × Heap))} (h : ∀ f S, T f = some S → C.sum f = some S ∨ SumR P f S) : Ctx.Ok P (C.plus T) where
  ty := hC.ty
  fn := hC.fn
  same := hC.same
  noZero := hC.noZero
  mixed := hC.mixed
  eqs := hC.eqs
  sum := by
    intro f S us H v H' hf hS μ args w ha hH
    rcases h f S hf with h | h
    · exact hC.sum f S us H v H' h hS μ args w ha hH
    · exact h us H v H' hS μ args w ha hH
theorem closed_true {P : Program} {C : Ctx} (hC : Ctx.Ok P C) {n : Nat} {f : FuncId} {H1 : Heap} (h : call C n f [] ⟨0, .nil⟩ = some (.bool true, H1)) : SumR P f fun us H => match us with
    | [] => some (.bool true, H)
    | _ => none := by
  intro us H v H' hS μ args w ha hH
  cases us with
  | cons a b => cases hS
  | nil =>
    cases hS
    have h0 : HR (fun _ => none) ⟨0, .nil⟩ w := ⟨by simp [PI.lim], fun _ _ => rfl, fun A bi hl hm => (by cases hm), fun A B a b _ _ _ hm => (by cases hm)⟩
    have ha0 : VRs (fun _ => none) [] args.toList := by
      generalize args.toList = l at ha
      cases ha
      exact .nil
    have hb : ∀ u, (∀ μ1, VR μ1 (.bool true) u → VR μ (.bool true) u) := fun u μ1 h => by cases h; exact .bool _
    rcases callF_sim hC (sound hC n) h ha0 h0 with ⟨u, w', h1, h2⟩ | ⟨h1, h2⟩
    · exact .inl ⟨u, w', h1, frame_closed hH (hb u) h2⟩
    · refine .inr ⟨h1, fun F m hF => (h2 F m hF).mono ?_⟩
      rintro e w' ⟨u, rfl, hE⟩
      exact ⟨u, rfl, frame_closed hH (hb u) hE⟩
def sTrue (us : List AV) (H : Heap) : Option (AV × Heap) :=
  match us with
  | [] => some (.bool true, H)
  | _ => none
def isTrue (x : Option (AV × Heap)) : Bool := match x with | some (.bool true, _) => true | _ => false
theorem isTrue_some {x : Option (AV × Heap)} (h : isTrue x = true) : ∃ H, x = some (.bool true, H) := by
  unfold isTrue at h
  split at h
  · exact ⟨_, rfl⟩
  · cases h
end Go.PI
