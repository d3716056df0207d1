/- Own work of the verifier: PiReg PiMain PiRange PiDraw PiDraw2. -/
import Derived.Test.YtefajaiioljjoaaOwAF
set_option linter.all false
set_option exponentiation.threshold 3000
set_option linter.deprecated false
namespace Go.PI
variable {P : Program} {C : Ctx} {μ : M}
theorem ofScalar_sim {v : Value} {a : AV} (h : ofScalar v = some a) : VR μ a v := by
  unfold ofScalar at h
  split at h <;> first | (cases h; done) | (cases h; constructor)
theorem ofScalars_sim : ∀ {vs : List Value} {as : List AV}, ofScalars vs = some as → VRs μ as vs
  | [], as, h => by simp [ofScalars] at h; subst h; exact .nil
  | v :: vs, as, h => by
    unfold ofScalars at h
    split at h
    · rename_i a as' e1 e2
      cases h; exact .cons (ofScalar_sim e1) (ofScalars_sim e2)
    · cases h
theorem ofConst_sim {v : Value} {a : AV} (h : ofConst v = some a) : VR μ a v := by
  unfold ofConst at h
  split at h
  · split at h
    · rename_i e; cases h; exact .agg (ofScalars_sim e)
    · cases h
  · split at h
    · rename_i vs e
      cases h
      have : vs = #[] := Array.eq_empty_of_size_eq_zero e
      subst this; exact .tup .nil
    · cases h
  · exact ofScalar_sim h
theorem opd_sim {T : List AV} {a : Act} (hT : VRs μ T a.tmps.toList) {x : Operand} {v : AV} (h : opd T x = some v) : VR μ v (a.eval x) := by
  cases x <;> simp only [opd] at h
  case tmp t => cases h; exact getD_sim hT t
  case const v => exact ofConst_sim h
  case func f => cases h; exact .fn (xs := #[]) (ys := #[]) .nil .nil
  case global g => cases h
theorem execE_sim (hC : Ctx.Ok P C) {ih : Ih} (hih : IhOk P ih) {o : Oper} {T : List AV} {a : Act} {H H' : Heap} {v : AV} {w : World} (h : execE C ih T o H = some (v, H')) (hr : RhoR μ (opd T) a.eval o.op.operands) (hH : HR μ H w)
    {F : Fence} {n : Nat} (hF : Wd F) {next : Act → World → Prop} {Q : Exit → Act → World → Prop} (k : ∀ u w', EffR μ H w v H' u w' → next (a.put o.dst u) w') : o.wpIn F n P a w next Q := by
  unfold execE at h
  split at h
  · split at h
    · rename_i v' e
      cases h
      obtain ⟨u, hu, hv⟩ := pure_sim hC e hr w
      exact wpIn_value hF (pure_notDefer e) hu (k _ _ ⟨μ, hv, hH, Fr.refl _ _ _⟩)
    · cases h
  · obtain ⟨dst, op, ty, pos, after, guard⟩ := o
    cases op <;> simp only at h <;> try (cases h; done)
    rename_i t x _
    split at h
    · rename_i av ea
      split at h
      · rename_i v' e
        cases h
        obtain ⟨u, hu, hv⟩ := loadE_sim hC hH e (hr x (by simp [Op.operands]) _ ea)
        exact wpIn_value hF (by simp) (u := u) (w' := w) (by simp [execOp, hu]) (k _ _ ⟨μ, hv, hH, Fr.refl _ _ _⟩)
      · cases h
    · cases h
  · split at h
    · cases h
    · rename_i hlim
      split at h
      · rename_i b f e
        cases h
        obtain ⟨ty, cs, carr, u, rfl, hcs, hrun, hval⟩ := alloc_sim hC e hr w
        have hn : H.n < PI.lim := by omega
        have hle : M.le μ (μ.set H.n ⟨w.heap.size, carr.size, 0⟩) := M.le_set (hH.dom _ (Nat.le_refl _))
        have hp := hH.push (w' := w.alloc (.cells carr ty)) hn (bi := ⟨w.heap.size, carr.size, 0⟩) (b := .cells true ty cs) (Nat.le_refl _) (by simp only [World.size_alloc]; omega) ⟨rfl, rfl, rfl⟩ (by simp only [World.size_alloc]; omega)
          (fun k hk => RowKit.Below.heap_alloc _ _ _ hk) (blk0 rfl ⟨carr, (0, 0), World.alloc_heap_new _ _, rfl, by rw [hcs.length]; simp, by rw [hcs.length, List.take_of_length_le (Nat.le_refl _)]; exact hcs.mono hle, fun _ => rfl⟩)
        refine wpIn_value hF (fun c e' => ?_) hrun (k _ _ ⟨_, hval _ H.n ⟨w.heap.size, carr.size, 0⟩ (M.set_self _ _ _) rfl rfl, hp.1, hp.2⟩)
        rw [e'] at e; simp [allocE] at e
      · cases h
  · exact eff_sim hC hih h hr hH hF k
  · obtain ⟨dst, op, ty, pos, after, guard⟩ := o
    cases op <;> simp only at h <;> try (cases h; done)
    rename_i t m key ok _
    split at h
    · rename_i av bv ea eb
      split at h
      · rename_i v' H2 hl
        cases h
        obtain ⟨u, hu, hv, -⟩ := lookup_sim hC hH hl (hr m (by simp [Op.operands]) _ ea) (hr key (by simp [Op.operands]) _ eb)
        exact wpIn_value hF (by simp) (u := u) (w' := w) (by simp [execOp, hu]) (k _ _ ⟨μ, hv, hH, Fr.refl _ _ _⟩)
      · cases h
    · cases h
theorem yielded_sim {ops : Array Oper} {T : List AV} {tmps : Array Value} {j : Nat} (h : ∀ d, ((ops[j]?).bind (·.dst)) = some d → ∀ v, T[d]? = some v → ∃ u, tmps[d]? = some u ∧ VR μ v u) (hl : T.length = tmps.size) : yielded ops tmps j = ayielded ops.toList T j := by
  unfold yielded ayielded
  have e : ops.toList[j]? = ops[j]? := by simp
  rw [e]
  cases ho : ops[j]? with
  | none => rfl
  | some o =>
    cases hd : o.dst with
    | none => simp [hd]
    | some d =>
      simp only [Option.bind_some, hd]
      cases hT : T[d]? with
      | none =>
        have : tmps[d]? = none := by simp at hT ⊢; omega
        rw [this]
      | some v =>
        obtain ⟨u, hu, hv⟩ := h d (by simp [ho, hd]) v hT
        rw [hu]
        cases hv <;> first
          | rfl
          | (rename_i hb
             cases u <;> first | rfl | exact absurd rfl (hb _))
theorem wanted_sim {ops : Array Oper} {T : List AV} {tmps : Array Value} (hT : VRs μ T tmps.toList) (o : Oper) : Region.wanted o (yielded ops tmps) = Region.wanted o (ayielded ops.toList T) := by
  have : yielded ops tmps = ayielded ops.toList T := funext fun j => yielded_sim (fun d _ v hv => by
    obtain ⟨u, hu, hr⟩ := hT.get hv
    exact ⟨u, by simpa using hu, hr⟩) (by rw [hT.length]; simp)
  rw [this]
theorem put_sim {T : List AV} {a : Act} (hT : VRs μ T a.tmps.toList) {v : AV} {u : Value} (h : VR μ v u) (d : Option Tmp) : VRs μ (putT T d v) (a.put d u).tmps.toList := by
  cases d with
  | none => exact hT
  | some d => simpa [putT, Act.put] using hT.set h d
theorem put_defers (a : Act) (d : Option Tmp) (u : Value) : (a.put d u).defers = a.defers := by cases d <;> rfl
theorem runE_sim (hC : Ctx.Ok P C) {ih : Ih} (hih : IhOk P ih) {ops : Array Oper} {F : Fence} {n : Nat} (hF : Wd F) {Q : Exit → Act → World → Prop} {T' : List AV} {H' : Heap} : ∀ (rest : List Oper) (k : Nat) (T : List AV) (H : Heap) (μ : M) (a : Act) (w : World), ops.toList.drop k = rest → runE C ih ops.toList rest T H = some (T', H') → VRs μ T a.tmps.toList → HR μ H w →
    (∀ μ' a' w', VRs μ' T' a'.tmps.toList → a'.defers = a.defers → HR μ' H' w' → Fr μ H w μ' H' w' → Q .normal a' w') → wpOpsIn F n P ops Q (List.range' k rest.length) a w
  | [], k, T, H, μ, a, w, hk, h, hT, hH, hq => by
    simp [runE] at h
    obtain ⟨rfl, rfl⟩ := h
    exact hq μ a w hT rfl hH (Fr.refl _ _ _)
  | o :: rest, k, T, H, μ, a, w, hk, h, hT, hH, hq => by
    have ho : ops[k]? = some o := by
      have : (ops.toList.drop k)[0]? = some o := by rw [hk]; rfl
      simpa using this
    have hk' : ops.toList.drop (k + 1) = rest := by
      rw [← List.drop_drop, hk]; rfl
    simp only [List.length_cons, List.range'_succ, wpOpsIn, ho]
    unfold runE at h
    split at h
    · rename_i T1 H1 hs
      unfold stepE at hs
      rw [wanted_sim hT]
      split at hs
      · rename_i hw
        rw [if_pos hw]
        split at hs
        · rename_i v H2 he
          cases hs
          refine execE_sim hC hih he (fun x _ b hb => opd_sim hT hb) hH hF ?_
          rintro u w' ⟨μ', hv, hH2, hf⟩
          refine runE_sim hC hih hF rest (k + 1) _ _ μ' _ w' hk' h (put_sim (VRs.mono hf.le hT) hv _) hH2 fun μ'' a' w'' q1 q2 q3 q4 => ?_
          exact hq μ'' a' w'' q1 (q2.trans (put_defers _ _ _)) q3 (hf.trans q4)
        · cases hs
      · rename_i hw
        rw [if_neg hw]
        cases hs
        refine ⟨fun f _ => hF.1 f, ?_⟩
        refine runE_sim hC hih hF rest (k + 1) _ _ μ _ w hk' h (put_sim hT undefR _) hH fun μ'' a' w'' q1 q2 q3 q4 => ?_
        exact hq μ'' a' w'' q1 (q2.trans (put_defers _ _ _)) q3 q4
    · cases h
end Go.PI
namespace Go.PI
variable {P : Program} {C : Ctx} {μ : M}
def DrawSim (P : Program) (C : Ctx) (ih : Ih) : Prop := ∀ (ops : Array Oper) (tr : List (List AV × Heap)) (T T' : List AV) (H H' : Heap), traceE C ih ops.toList ops.toList T H = some tr → drawOk C ops.toList tr = true → lastOf tr = some (T', H') →
  ∀ (F : Fence) (n : Nat), Wd F → ∀ (Q : Exit → Act → World → Prop) (μ : M) (a : Act) (w : World), VRs μ T a.tmps.toList → HR μ H w →
    (∀ μ' a' w', VRs μ' T' a'.tmps.toList → a'.defers = a.defers → HR μ' H' w' → Fr μ H w μ' H' w' → Q .normal a' w') → ∀ t, wpOpsIn F n P ops Q (Region.linearise .any ops t) a w
theorem RdR.mono {μ ν : M} (h : M.le μ ν) {rd : Option Nat} {F : Fence} (k : RdR μ rd F) : RdR ν rd F := by
  cases rd with
  | none => exact k
  | some l => obtain ⟨bi, h1, h2⟩ := k; exact ⟨bi, h _ _ h1, h2⟩
theorem SimPost.comp {s s1 s' : St} {w w1 : World} {μ1 : M} (hf : Fr μ s.H w μ1 s1.H w1) {e : Ex} {e' : Exit} {a' : Act} {w' : World} (h : SimPost μ1 s1 w1 e s' e' a' w') : SimPost μ s w e s' e' a' w' := by
  obtain ⟨h1, μ', h2, h3⟩ := h
  exact ⟨h1, μ', h2, hf.trans h3⟩
theorem wpIn_then {F : Fence} {n : Nat} {c : Code} {a : Act} {w : World} {s s1 : St} {e : Ex} (h : c.wpIn F n P (SimPost μ s w e s1) a w) {N : Act → World → Prop} {Q : Exit → Act → World → Prop}
    (h1 : e = .normal → ∀ μ1 a1 w1, StR μ1 s1 a1 w1 → Fr μ s.H w μ1 s1.H w1 → N a1 w1) (h2 : e ≠ .normal → ∀ a1 w1, SimPost μ s w e s1 (exR e) a1 w1 → Q (exR e) a1 w1) : c.wpIn F n P (Exit.then N Q) a w :=
  wpIn_mono h fun e' a' w' hp => by
    obtain ⟨rfl, hp2⟩ := hp
    cases e with
    | normal =>
      obtain ⟨μ1, h3, h4⟩ := hp2
      exact h1 rfl μ1 a' w' h3 h4
    | exit id => exact h2 (by simp) _ _ ⟨rfl, hp2⟩
    | goto l => exact h2 (by simp) _ _ ⟨rfl, hp2⟩
    | ret => exact h2 (by simp) _ _ ⟨rfl, hp2⟩
theorem loopF_sim {ih : Ih} (hih : IhOk P ih) {rd : Option Nat} {b : Code} {F : Fence} {n : Nat} (hF : Wd F) {e : Ex} {s' : St} : ∀ (k : Nat) (s : St), loopF ih rd b k s = some (e, s') → ∀ (μ : M) (a : Act) (w : World), RdR μ rd F → StR μ s a w →
    ∀ (fb : Frame) (kk : List Item) (cs : List Frame), fb.roundOf = F.round → F.fn fb.fn → F.room (cs.length + 1 + n) →
      ∃ e' a' w', SimPost μ s w e s' e' a' w' ∧ ArrivesIn (Machine.fenced P F) P (lone (fb.atR a (.code b :: .inLoop b :: kk)) cs w) fb kk cs e' a' w'
  | 0, s, h => by simp [loopF] at h
  | k + 1, s, h => by
    intro μ a w hrd hst fb kk cs hro hb hr
    unfold loopF at h
    have fin : ∀ (e : Ex) (s1 : St), e ≠ .normal → ih rd b s = some (e, s1) → ∃ e' a' w', SimPost μ s w e s1 e' a' w' ∧ ArrivesIn (Machine.fenced P F) P (lone (fb.atR a (.code b :: .inLoop b :: kk)) cs w) fb kk cs e' a' w' := fun e s1 hne hr1 => by
      obtain ⟨e1, a1, w1, hp, harr⟩ := hih rd b s e s1 hr1 F n hF μ a w hrd hst fb (.inLoop b :: kk) cs hro hb hr
      obtain ⟨rfl, hp2⟩ := hp
      refine ⟨_, a1, w1, ⟨rfl, hp2⟩, .pass (x := .inLoop b) rfl (fun _ _ => .inl ?_) harr⟩
      cases e <;> simp_all [exR]
    split at h
    · rename_i s1 hr1
      obtain ⟨e1, a1, w1, ⟨rfl, μ1, hs1, hf1⟩, harr⟩ := hih rd b s _ s1 hr1 F n hF μ a w hrd hst fb (.inLoop b :: kk) cs hro hb hr
      obtain ⟨e2, a2, w2, hp2, harr2⟩ := loopF_sim hih hF k s1 h μ1 a1 w1 (hrd.mono hf1.le) hs1 fb kk cs hro hb hr
      exact ⟨e2, a2, w2, hp2.comp hf1, .of_steps (StepsIn.trans harr (.one (fenced_calm hb hr rfl) stepR_inLoop)) harr2⟩
    · rename_i hne
      cases e with
      | normal => exact absurd h (hne s')
      | exit id => exact fin _ _ (by simp) h
      | goto l => exact fin _ _ (by simp) h
      | ret => exact fin _ _ (by simp) h
theorem evF_sim (hC : Ctx.Ok P C) {ih : Ih} (hih : IhOk P ih) (hdraw : DrawSim P C ih) (hrange : ∀ rd f ps assign body s e s', rangeF C ih rd f ps assign body s = some (e, s') → ∀ (F : Fence) (n : Nat), Wd F → ∀ μ a w, RdR μ rd F → StR μ s a w → (Code.rangeFunc f ps assign body).wpIn F n P (SimPost μ s w e s') a w) (k : Nat) : IhOk P (evF C ih k) := by
  intro rd c s e s' h F n hF μ a w hrd hst
  cases c <;> simp only [evF] at h
  case skip => cases h; exact wpIn_skip ⟨rfl, μ, hst, Fr.refl _ _ _⟩
  case label l => cases h; exact wpIn_label ⟨rfl, μ, hst, Fr.refl _ _ _⟩
  case exit id => cases h; exact wpIn_exit ⟨rfl, μ, hst, Fr.refl _ _ _⟩
  case goto l => cases h; exact wpIn_goto ⟨rfl, μ, hst, Fr.refl _ _ _⟩
  case ret => cases h; exact wpIn_ret ⟨rfl, μ, hst, Fr.refl _ _ _⟩
  case refuse why => cases h
  case scope b => cases h
  case seq x y =>
    refine wpIn_seq ?_
    split at h
    · rename_i s1 h1
      exact wpIn_then (hih rd x s _ s1 h1 F n hF μ a w hrd hst) (fun _ μ1 a1 w1 q1 q2 => wpIn_mono (hih rd y s1 e s' h F n hF μ1 a1 w1 (hrd.mono q2.le) q1) fun _ _ _ hp => hp.comp q2) (fun hne => absurd rfl hne)
    · rename_i hne
      refine wpIn_then (hih rd x s _ s' h F n hF μ a w hrd hst) (fun he => ?_) (fun _ a1 w1 hp => hp)
      subst he; exact absurd h (hne s')
  case cond c x y =>
    split at h
    · rename_i ec
      exact wpIn_cond_true ((opd_sim hst.T ec).bool_inv) (hih rd x s e s' h F n hF μ a w hrd hst)
    · rename_i ec
      exact wpIn_cond_false ((opd_sim hst.T ec).bool_inv) (hih rd y s e s' h F n hF μ a w hrd hst)
    · cases h
  case block id b =>
    refine wpIn_block ?_
    split at h
    · rename_i i s1 h1
      refine wpIn_mono (hih rd b s _ s1 h1 F n hF μ a w hrd hst) ?_
      rintro e' a' w' ⟨rfl, hp⟩
      split at h
      · rename_i hi
        cases h
        simp only [exR, Exit.inBlock, hi, if_true]
        exact ⟨rfl, hp⟩
      · rename_i hi
        cases h
        simp only [exR, Exit.inBlock, hi, if_false]
        exact ⟨rfl, hp⟩
    · rename_i hne
      refine wpIn_mono (hih rd b s _ s' h F n hF μ a w hrd hst) ?_
      rintro e' a' w' ⟨rfl, hp⟩
      cases e with
      | exit i => exact absurd h (hne i s')
      | normal => exact ⟨rfl, hp⟩
      | goto l => exact ⟨rfl, hp⟩
      | ret => exact ⟨rfl, hp⟩
  case loop b =>
    intro fb kk cs hro hb hr
    obtain ⟨e', a', w', hp, harr⟩ := loopF_sim hih hF k s h μ a w hrd hst fb kk cs hro hb hr
    exact ⟨e', a', w', hp, .of_steps (.one (fenced_calm hb hr rfl) stepR_loop) harr⟩
  case region id ops draw =>
    split at h
    · rename_i hd
      subst hd
      split at h
      · rename_i tr htr
        split at h
        · rename_i hok
          split at h
          · rename_i T' H' hlast
            cases h
            refine wpIn_region_draw fun t => ?_
            rw [hC.mixed]
            simp only [Region.schedule, Bool.true_or, if_true]
            refine hdraw ops tr s.T T' s.H H' htr hok hlast F n hF _ μ a { w with drawn := w.drawn + 1 } hst.T (hst.H.same rfl) ?_ t
            intro μ' a' w' q1 q2 q3 q4
            refine ⟨rfl, μ', ⟨q1, ?_, q3⟩, ⟨q4.le, q4.eq, q4.n, q4.os, q4.tape, q4.output, q4.size, q4.keep, q4.ro⟩⟩
            rw [q2]; exact hst.D.mono q4.le
          · cases h
        · cases h
      · cases h
    · rename_i hd
      have hd : draw = false := by simpa using hd
      subst hd
      split at h
      · rename_i T' H' hrun
        cases h
        refine wpIn_region ?_
        have := runE_sim hC hih (ops := ops) (n := n) hF (Q := SimPost μ s w .normal ⟨T', H', s.D⟩) ops.toList 0 s.T s.H μ a w (by simp) hrun hst.T hst.H fun μ' a' w' q1 q2 q3 q4 => ⟨rfl, μ', ⟨q1, by rw [q2]; exact hst.D.mono q4.le, q3⟩, q4⟩
        rw [List.range_eq_range']
        simpa using this
      · cases h
  case rangeFunc f ps assign body => exact hrange rd f ps assign body s e s' h F n hF μ a w hrd hst
end Go.PI
namespace Go.PI
variable {P : Program} {C : Ctx} {μ : M}
theorem run_enterLoop_in {w : World} {l₀ : Nat} {r₀ : Loop} (h : w.heap[l₀]? = some (.loop r₀)) (fn : FuncId) (tmps : Array Value) (ps : Array Tmp) (assign body : Code) :
    (Instr.enterLoop fn tmps ps assign body (some l₀)).run P w = .ok (w.heap.size, []) (w.alloc (.loop { state := .ready, pending := none, fn, tmps, params := ps, assign, body, defers := r₀.defers })) := by
  unfold Instr.enterLoop
  simp only [Sem.run_bind, run_getLoop h, Result.andThen_ok, Sem.run_pure, run_newObj_alloc]
theorem rangeF_sim (hC : Ctx.Ok P C) {ih : Ih} (hih : IhOk P ih) (rd : Option Nat) (f : Operand) (ps : Array Tmp) (assign body : Code) (s : St) (e : Ex) (s' : St) (h : rangeF C ih rd f ps assign body s = some (e, s')) (F : Fence) (n : Nat) (hF : Wd F) (μ : M) (a : Act) (w : World)
    (hrd : RdR μ rd F) (hst : StR μ s a w) : (Code.rangeFunc f ps assign body).wpIn F n P (SimPost μ s w e s') a w := by
  unfold rangeF at h
  split at h
  · cases h
  rename_i hlim
  split at h
  · rename_i g first caps ef
    split at h
    · cases h
    rename_i hgn
    obtain ⟨xs, ys, evf, hx, hy⟩ := (opd_sim hst.T ef).fn_inv
    refine wpIn_rangeFunc fun fn _ => ?_
    -- the loop's record, and the block of its deferred calls
    have start : ∀ (D : Nat) (H1 : Heap) (Ds : List Nat), startE rd s = some (D, H1, Ds) →
        ∃ (μ2 : M) (l : BI) (mark : List Deferred) (w1 : World), (Instr.enterLoop fn a.tmps ps assign body F.round).run P w = .ok (l.c, mark) w1 ∧ μ2 H1.n = some l ∧
          HR μ2 (H1.push (.loop { state := .ready, pending := none, tmps := s.T, params := ps, assign, body, dfr := D })) w1 ∧ Fr μ s.H w μ2 (H1.push (.loop { state := .ready, pending := none, tmps := s.T, params := ps, assign, body, dfr := D })) w1 ∧ DefR μ2 Ds (mark ++ a.defers) := fun D H1 Ds hm => by
      cases rd with
      | none =>
        simp only [startE] at hm
        cases hm
        have hr0 : F.round = none := hrd
        rw [hr0]
        have p1 := hst.H.push (w' := w.alloc (.deferred (some []))) (bi := ⟨w.heap.size, 0, 0⟩) (b := .dfr) (by omega) (Nat.le_refl _) (by simp only [World.size_alloc]; omega) ⟨rfl, rfl, rfl⟩ (by simp only [World.size_alloc]; omega) (fun k hk => RowKit.Below.heap_alloc _ _ _ hk) (World.alloc_heap_new _ _)
        have hn1 : (s.H.push .dfr).n = s.H.n + 1 := rfl
        have hle2 : M.le (μ.set s.H.n ⟨w.heap.size, 0, 0⟩) ((μ.set s.H.n ⟨w.heap.size, 0, 0⟩).set (s.H.push .dfr).n ⟨w.heap.size + 1, 0, 0⟩) := M.le_set (p1.1.dom _ (Nat.le_refl _))
        have p2 := p1.1.push (w' := (w.alloc (.deferred (some []))).alloc (.loop { state := .ready, pending := none, fn, tmps := a.tmps, params := ps, assign, body, defers := w.heap.size })) (bi := ⟨w.heap.size + 1, 0, 0⟩) (b := .loop { state := .ready, pending := none, tmps := s.T, params := ps, assign, body, dfr := s.H.n }) (by omega) (by simp only [World.size_alloc]; omega) (by simp only [World.size_alloc]; omega) ⟨rfl, rfl, rfl⟩ (by simp only [World.size_alloc]; omega) (fun k hk => RowKit.Below.heap_alloc _ _ _ hk)
          ⟨_, (by have := World.alloc_heap_new (w.alloc (.deferred (some []))) (.loop { state := .ready, pending := none, fn, tmps := a.tmps, params := ps, assign, body, defers := w.heap.size }); rwa [World.size_alloc] at this), rfl, rfl, (hst.T.mono p1.2.le).mono hle2, rfl, rfl, rfl, ⟨w.heap.size, 0, 0⟩, hle2 _ _ (M.set_self _ _ _), rfl⟩
        refine ⟨_, ⟨w.heap.size + 1, 0, 0⟩, [{ target := .collected w.heap.size, args := #[] }], _, run_enterLoop_outer fn a.tmps ps assign body, M.set_self _ _ _, p2.1, p1.2.trans p2.2, ?_⟩
        exact .cons ⟨⟨w.heap.size, 0, 0⟩, hle2 _ _ (M.set_self _ _ _), rfl⟩ (hst.D.mono (p1.2.trans p2.2).le)
      | some l0 =>
        simp only [startE] at hm
        split at hm
        · rename_i L0 hg0
          cases hm
          obtain ⟨b0, hb0, hr0⟩ := hrd
          rw [hr0]
          obtain ⟨hlt, lp, q1, -, -, -, -, -, -, bd, q8, q9⟩ := hst.H.loop hg0 hb0
          have hle2 : M.le μ (μ.set s.H.n ⟨w.heap.size, 0, 0⟩) := M.le_set (hst.H.dom _ (Nat.le_refl _))
          have p2 := hst.H.push (w' := w.alloc (.loop { state := .ready, pending := none, fn, tmps := a.tmps, params := ps, assign, body, defers := lp.defers })) (bi := ⟨w.heap.size, 0, 0⟩) (b := .loop { state := .ready, pending := none, tmps := s.T, params := ps, assign, body, dfr := L0.dfr }) (by omega) (Nat.le_refl _) (by simp only [World.size_alloc]; omega) ⟨rfl, rfl, rfl⟩ (by simp only [World.size_alloc]; omega) (fun k hk => RowKit.Below.heap_alloc _ _ _ hk)
            ⟨_, World.alloc_heap_new _ _, rfl, rfl, hst.T.mono hle2, rfl, rfl, rfl, bd, hle2 _ _ q8, q9⟩
          exact ⟨_, ⟨w.heap.size, 0, 0⟩, [], _, run_enterLoop_in q1 fn a.tmps ps assign body, M.set_self _ _ _, p2.1, p2.2, hst.D.mono p2.2.le⟩
        · cases hm
    split at h
    · rename_i D H1 Ds hm
      obtain ⟨μ2, l, mark, w1, henter, hl, hH2, hf2, hD2⟩ := start D H1 Ds hm
      split at h
      · rename_i v H3 hcall
        have hargs : VRs μ2 (first ++ [.yld H1.n] ++ caps) (xs ++ #[Value.func (.yield l.c) #[] #[]] ++ ys).toList := by
          simp only [Array.toList_append]
          exact ((hx.mono hf2.le).append (.cons (.yld hl) .nil)).append (hy.mono hf2.le)
        rcases callF_sim hC hih hcall hargs hH2 with ⟨u, w', hrun, -⟩ | ⟨hrun, hcalls⟩
        · -- the function has a body
          exfalso
          cases hfi : C.fn g with
          | none => exact hgn (by rw [hfi]; rfl)
          | some fi =>
            obtain ⟨fn', f1, f2, f3, f4, f5⟩ := hC.fn g fi hfi
            have f5' : ¬ fn'.name = "runtime.NumGoroutine" := by simpa using f5
            simp [callFunc, f1, f5', f4] at hrun
        · refine ⟨l.c, mark, w1, { target := .fn (.func g) ys, args := xs ++ #[Value.func (.yield l.c) #[] #[]] }, w1, g, xs ++ #[Value.func (.yield l.c) #[] #[]] ++ ys, w1, henter, ?_, fun f' _ => hF.1 f', ?_, wd_depth hF, ?_⟩
          · simp only [resolve, rangeCall, evf, Deferred.ofValue]
            simp [Act.eval]
          · simp only [invoke]; exact hrun
          · obtain ⟨c1, c2⟩ := hcalls F (n - 1) hF
            refine ⟨c1, fun cs hroom => ?_⟩
            obtain ⟨e1, w3, fr, ⟨u, rfl, μ3, -, hH3, hf3⟩, hc⟩ := c2 cs hroom
            refine ⟨_, w3, fr, ?_, hc⟩
            have hl3 := hf3.le _ _ hl
            split at h
            · rename_i lp hg3
              split at h
              · cases h
              rename_i hbusy
              obtain ⟨hlt3, r3, q1, q2, q3, -⟩ := hH3.loop hg3 hl3
              have hend := run_endLoop (P := P) q1 (by rw [q2]; exact hbusy)
              have hset := hH3.set (w' := w3.putObj l.c (.loop { r3 with state := .exhausted })) (blk := .dead) (by rw [hg3]; rfl) hl3 ⟨rfl, rfl, rfl⟩ (by simp) (fun k hk => World.putObj_heap_other hk) trivial
              have hfall : Fr μ s.H w μ3 (H3.set H1.n .dead) (w3.putObj l.c (.loop { r3 with state := .exhausted })) := (hf2.trans hf3).trans hset.2
              have hst3 : StR μ3 ⟨s.T, H3.set H1.n .dead, Ds⟩ { a with defers := mark ++ a.defers } (w3.putObj l.c (.loop { r3 with state := .exhausted })) := ⟨hst.T.mono hfall.le, hD2.mono hf3.le, hset.1⟩
              refine ⟨_, _, hend, ?_⟩
              generalize w3.putObj l.c (.loop { r3 with state := .exhausted }) = w4 at *
              rw [q3]
              split at h
              · rename_i hp
                rw [hp]
                cases h
                exact ⟨rfl, μ3, hst3, hfall⟩
              · rename_i c hp
                rw [hp]
                exact wpIn_mono (hih rd c _ e s' h F n hF μ3 _ _ (hrd.mono hfall.le) hst3) fun _ _ _ hp => hp.comp hfall
            · cases h
      · cases h
    · cases h
  · cases h
theorem ev_ok (hC : Ctx.Ok P C) (hdraw : ∀ ih, IhOk P ih → DrawSim P C ih) : ∀ n, IhOk P (ev C n)
  | 0 => fun _ _ _ _ _ h => by cases h
  | n + 1 => evF_sim hC (ev_ok hC hdraw n) (hdraw _ (ev_ok hC hdraw n)) (rangeF_sim hC (ev_ok hC hdraw n)) n
end Go.PI
namespace Go.PI
variable {P : Program} {C : Ctx}
structure Trc (C : Ctx) (ih : Ih) (L : List Oper) (Tt : Nat → List AV) (Hh : Nat → Heap) (fc : Nat → Nat → Prop) : Prop where
  step : ∀ (i : Nat) (o : Oper), L[i]? = some o → stepE C ih L o (Tt i) (Hh i) = some (Tt (i + 1), Hh (i + 1))
  mono : ∀ i, i < L.length → (Hh i).n ≤ (Hh (i + 1)).n
  back : ∀ (j : Nat) (y : Oper), L[j]? = some y → ∀ e ∈ y.after, Region.binds .any e = true → e.on < j
  fce : ∀ (j : Nat) (y : Oper), L[j]? = some y → ∀ i, fc i j → ∃ e ∈ y.after, Region.binds .any e = true ∧ (i = e.on ∨ fc i e.on)
  ord : ∀ (i j : Nat) (x y : Oper), i < j → L[i]? = some x → L[j]? = some y → clash C L x y = true → fc i j
  load : ∀ (i : Nat) (o : Oper) t x, L[i]? = some o → o.op = .load t x → Region.wanted o (ayielded L (Tt i)) = true → ∀ a v, opd (Tt i) x = some a → loadE C t a (Hh i) = some v →
    ∀ p, p ≤ L.length → (p = 0 ∨ ∃ o', L[p - 1]? = some o' ∧ kindOf C o'.op = .eff) → (∀ (j : Nat) (x : Oper), L[j]? = some x → kindOf C x.op = .eff → (fc j i → j < p) ∧ (fc i j → p ≤ j)) → loadE C t a (Hh p) = some v
  alloc : ∀ (i : Nat) (o : Oper), L[i]? = some o → kindOf C o.op = .alloc → Region.wanted o (ayielded L (Tt i)) = true → ∀ ty cs f, allocE C (opd (Tt i)) o.op = some (.cells true ty cs, f) →
    ∀ p, p ≤ L.length → i < p → (p = 0 ∨ ∃ o', L[p - 1]? = some o' ∧ kindOf C o'.op = .eff) → (∀ (j : Nat) (x : Oper), L[j]? = some x → kindOf C x.op = .eff → (fc j i → j < p) ∧ (fc i j → p ≤ j)) → (Hh p).get (Hh i).n = .cells true ty cs
section
variable {ih : Ih} {L : List Oper} {Tt : Nat → List AV} {Hh : Nat → Heap} {fc : Nat → Nat → Prop}
theorem Trc.monos (tr : Trc C ih L Tt Hh fc) {i j : Nat} (h : i ≤ j) (hj : j ≤ L.length) : (Hh i).n ≤ (Hh j).n := by
  induction j with
  | zero => have : i = 0 := by omega
            subst this; exact Nat.le_refl _
  | succ j ihj =>
    by_cases e : i = j + 1
    · subst e; exact Nat.le_refl _
    · exact Nat.le_trans (ihj (by omega) (by omega)) (tr.mono j (by omega))
def Act1 (C : Ctx) (L : List Oper) (Tt : Nat → List AV) (i : Nat) : Prop := ∃ o, L[i]? = some o ∧ kindOf C o.op = .alloc ∧ Region.wanted o (ayielded L (Tt i)) = true
theorem Trc.alloc_step (tr : Trc C ih L Tt Hh fc) {i : Nat} {o : Oper} (ho : L[i]? = some o) (hk : kindOf C o.op = .alloc) (hw : Region.wanted o (ayielded L (Tt i)) = true) :
    ∃ b f, allocE C (opd (Tt i)) o.op = some (b, f) ∧ (Hh i).n < PI.lim ∧ Tt (i + 1) = putT (Tt i) o.dst (f (Hh i).n) ∧ Hh (i + 1) = (Hh i).push b := by
  have h := tr.step i o ho
  unfold stepE at h
  rw [if_pos hw] at h
  split at h
  · rename_i v H' he
    unfold execE at he
    rw [hk] at he
    simp only at he
    split at he
    · cases he
    · rename_i hl
      split at he
      · rename_i b f hb
        cases he
        simp only [Option.some.injEq, Prod.mk.injEq] at h
        exact ⟨b, f, hb, by omega, h.1.symm, h.2.symm⟩
      · cases he
  · cases h
theorem Trc.act_n (tr : Trc C ih L Tt Hh fc) {i : Nat} (h : Act1 C L Tt i) : (Hh (i + 1)).n = (Hh i).n + 1 := by
  obtain ⟨o, h1, h2, h3⟩ := h
  obtain ⟨b, f, -, -, -, e⟩ := tr.alloc_step h1 h2 h3
  rw [e]; rfl
theorem Trc.act_lt (tr : Trc C ih L Tt Hh fc) {i : Nat} (h : Act1 C L Tt i) : i < L.length := by
  obtain ⟨o, h1, -⟩ := h
  exact (List.getElem?_eq_some_iff.1 h1).1
theorem Trc.act_inj (tr : Trc C ih L Tt Hh fc) {i j : Nat} (hi : Act1 C L Tt i) (hj : Act1 C L Tt j) (e : (Hh i).n = (Hh j).n) : i = j := by
  have a := tr.act_n hi
  have b := tr.act_n hj
  have c := tr.act_lt hi
  have d := tr.act_lt hj
  rcases Nat.lt_trichotomy i j with h | h | h
  · have := tr.monos (i := i + 1) (j := j) h (by omega); omega
  · exact h
  · have := tr.monos (i := j + 1) (j := i) h (by omega); omega
theorem Trc.still (tr : Trc C ih L Tt Hh fc) {i : Nat} {o : Oper} (ho : L[i]? = some o) (h : kindOf C o.op = .pure ∨ kindOf C o.op = .load ∨ kindOf C o.op = .look ∨ Region.wanted o (ayielded L (Tt i)) = false) : Hh (i + 1) = Hh i := by
  have hs := tr.step i o ho
  unfold stepE at hs
  split at hs
  · rename_i hw
    split at hs
    · rename_i v H' he
      simp only [Option.some.injEq, Prod.mk.injEq] at hs
      rw [← hs.2]
      unfold execE at he
      rcases h with h | h | h | h
      · rw [h] at he; simp only at he
        split at he
        · cases he; rfl
        · cases he
      · rw [h] at he; simp only at he
        split at he
        · split at he
          · split at he
            · cases he; rfl
            · cases he
          · cases he
        · cases he
      · rw [h] at he; simp only at he
        split at he
        · split at he
          · split at he
            · cases he; rfl
            · cases he
          · cases he
        · cases he
      · rw [hw] at h; cases h
    · cases hs
  · simp only [Option.some.injEq, Prod.mk.injEq] at hs
    exact hs.2.symm
theorem Trc.frame_T (tr : Trc C ih L Tt Hh fc) {i : Nat} {o : Oper} (ho : L[i]? = some o) {t : Nat} (ht : o.dst ≠ some t) : (Tt (i + 1))[t]? = (Tt i)[t]? := by
  have hs := tr.step i o ho
  unfold stepE at hs
  have key : ∀ v, (putT (Tt i) o.dst v)[t]? = (Tt i)[t]? := fun v => by
    cases hd : o.dst with
    | none => rfl
    | some d =>
      have : d ≠ t := fun e => ht (by rw [hd, e])
      simp [putT, List.getElem?_set, this]
  split at hs
  · split at hs
    · simp only [Option.some.injEq, Prod.mk.injEq] at hs; rw [← hs.1]; exact key _
    · cases hs
  · simp only [Option.some.injEq, Prod.mk.injEq] at hs; rw [← hs.1]; exact key _
theorem Trc.len_T (tr : Trc C ih L Tt Hh fc) : ∀ i, i ≤ L.length → (Tt i).length = (Tt 0).length
  | 0, _ => rfl
  | i + 1, h => by
    obtain ⟨o, ho⟩ : ∃ o, L[i]? = some o := ⟨L[i], List.getElem?_eq_getElem (by omega)⟩
    have hs := tr.step i o ho
    unfold stepE at hs
    have key : ∀ v, (putT (Tt i) o.dst v).length = (Tt i).length := fun v => by cases o.dst <;> simp [putT]
    have : (Tt (i + 1)).length = (Tt i).length := by
      split at hs
      · split at hs
        · simp only [Option.some.injEq, Prod.mk.injEq] at hs; rw [← hs.1]; exact key _
        · cases hs
      · simp only [Option.some.injEq, Prod.mk.injEq] at hs; rw [← hs.1]; exact key _
    rw [this]; exact tr.len_T i (by omega)
theorem Trc.frames_T (tr : Trc C ih L Tt Hh fc) {i j t : Nat} (h : i ≤ j) (hj : j ≤ L.length) (hno : ∀ k o, i ≤ k → k < j → L[k]? = some o → o.dst ≠ some t) : (Tt j)[t]? = (Tt i)[t]? := by
  induction j with
  | zero => have : i = 0 := by omega
            subst this; rfl
  | succ j ihj =>
    by_cases e : i = j + 1
    · subst e; rfl
    · obtain ⟨o, ho⟩ : ∃ o, L[j]? = some o := ⟨L[j], List.getElem?_eq_getElem (by omega)⟩
      rw [tr.frame_T ho (hno j o (by omega) (by omega) ho)]
      exact ihj (by omega) (by omega) fun k o h1 h2 => hno k o h1 (by omega)
theorem Trc.quiet (tr : Trc C ih L Tt Hh fc) {p k : Nat} (hpk : p ≤ k) (hk : k ≤ L.length) (hno : ∀ i o, p ≤ i → i < k → L[i]? = some o → kindOf C o.op ≠ .eff) :
    (∀ A, A < (Hh p).n → (Hh k).get A = (Hh p).get A) ∧
    (∀ A, (Hh p).n ≤ A → A < (Hh k).n → ∃ i, p ≤ i ∧ i < k ∧ Act1 C L Tt i ∧ A = (Hh i).n) ∧
    (∀ i o, p ≤ i → i < k → L[i]? = some o → kindOf C o.op = .alloc → Region.wanted o (ayielded L (Tt i)) = true → ∀ b f, allocE C (opd (Tt i)) o.op = some (b, f) → (Hh k).get (Hh i).n = b) := by
  induction k with
  | zero => have : p = 0 := by omega
            subst this
            exact ⟨fun _ _ => rfl, fun A h1 h2 => by omega, fun i o _ h => by omega⟩
  | succ k ihk =>
    by_cases e : p = k + 1
    · subst e
      exact ⟨fun _ _ => rfl, fun A h1 h2 => by omega, fun i o h1 h2 => by omega⟩
    · obtain ⟨q1, q2, q3⟩ := ihk (by omega) (by omega) fun i o h1 h2 => hno i o h1 (by omega)
      obtain ⟨o, ho⟩ : ∃ o, L[k]? = some o := ⟨L[k], List.getElem?_eq_getElem (by omega)⟩
      have hne := hno k o (by omega) (by omega) ho
      have hmp := tr.monos (i := p) (j := k) (by omega) (by omega)
      by_cases ha : kindOf C o.op = .alloc ∧ Region.wanted o (ayielded L (Tt k)) = true
      · obtain ⟨b, f, hb, hlim, -, hH⟩ := tr.alloc_step ho ha.1 ha.2
        rw [hH]
        refine ⟨fun A hA => ?_, fun A h1 h2 => ?_, fun i o' h1 h2 h3 h4 h5 b' f' h6 => ?_⟩
        · rw [Heap.get_push hlim, if_neg (by omega)]; exact q1 A hA
        · simp only [Heap.push] at h2
          by_cases eA : A = (Hh k).n
          · exact ⟨k, by omega, by omega, ⟨o, ho, ha⟩, eA⟩
          · obtain ⟨i, r1, r2, r3⟩ := q2 A h1 (by omega)
            exact ⟨i, r1, by omega, r3⟩
        · rw [Heap.get_push hlim]
          by_cases ei : i = k
          · subst ei
            rw [ho] at h3; cases h3
            rw [hb] at h6; cases h6
            rw [if_pos rfl]
          · have hi : (Hh (i + 1)).n = (Hh i).n + 1 := tr.act_n ⟨o', h3, h4, h5⟩
            have := tr.monos (i := i + 1) (j := k) (by omega) (by omega)
            rw [if_neg (by omega)]
            exact q3 i o' h1 (by omega) h3 h4 h5 b' f' h6
      · have hst : Hh (k + 1) = Hh k := tr.still ho (by
          cases hkd : kindOf C o.op with
          | pure => exact .inl rfl
          | load => exact .inr (.inl rfl)
          | look => exact .inr (.inr (.inl rfl))
          | alloc =>
            right; right; right
            cases hw : Region.wanted o (ayielded L (Tt k)) with
            | true => exact absurd ⟨hkd, hw⟩ ha
            | false => rfl
          | eff => exact absurd hkd hne)
        rw [hst]
        refine ⟨q1, fun A h1 h2 => ?_, fun i o' h1 h2 h3 h4 h5 b' f' h6 => ?_⟩
        · obtain ⟨i, r1, r2, r3⟩ := q2 A h1 h2
          exact ⟨i, r1, by omega, r3⟩
        · by_cases ei : i = k
          · subst ei
            rw [ho] at h3; cases h3
            exact absurd ⟨h4, h5⟩ ha
          · exact q3 i o' h1 (by omega) h3 h4 h5 b' f' h6
end
end Go.PI
namespace Go.PI
variable {P : Program} {C : Ctx}
theorem HR.other {μ : M} {H : Heap} {w w' : World} (h : HR μ H w) (hs : w.heap.size ≤ w'.heap.size) (hk : ∀ k, k < w.heap.size → w'.heap[k]? = w.heap[k]?) : HR μ H w' :=
  ⟨h.lim, h.dom, fun A bi hl hm => by
    obtain ⟨h1, h2⟩ := h.blk A bi hl hm
    exact ⟨by omega, h2.mono (M.le.refl _) (hk _ h1)⟩, h.inj⟩
theorem HR.fill {μ : M} {H : Heap} {w w' : World} (hH : HR μ H w) {A : Nat} (hA : A < H.n) (hmA : μ A = none) {bi : BI} (hc : w.heap.size ≤ bi.c) (hc' : bi.c < w'.heap.size) (hs : w.heap.size ≤ w'.heap.size) (hk : ∀ k, k < w.heap.size → w'.heap[k]? = w.heap[k]?)
    (hb : BlkR (μ.set A bi) w' bi (H.get A)) : HR (μ.set A bi) H w' := by
  have hle : M.le μ (μ.set A bi) := M.le_set hmA
  have hold : ∀ {X a}, X ≠ A → (μ.set A bi) X = some a → μ X = some a := fun h e => by unfold M.set at e; rwa [if_neg h] at e
  refine ⟨hH.lim, fun X hX => ?_, fun X a hl hm => ?_, fun X Y a b hXY ho hl hmX hmY => ?_⟩
  · unfold M.set; rw [if_neg (by omega)]; exact hH.dom X hX
  · by_cases e : X = A
    · subst e; rw [M.set_self] at hm; cases hm; exact ⟨hc', hb⟩
    · obtain ⟨h1, h2⟩ := hH.blk X a hl (hold e hm)
      exact ⟨by omega, h2.mono hle (hk _ h1)⟩
  · by_cases e : X = A
    · subst e; rw [M.set_self] at hmX; cases hmX
      have := (hH.blk Y b hl (hold (Ne.symm hXY) hmY)).1
      omega
    · have h1 := (hH.blk X a (Blk.live_of_own ho) (hold e hmX)).1
      by_cases e' : Y = A
      · subst e'; rw [M.set_self] at hmY; cases hmY; omega
      · exact hH.inj X Y a b hXY ho hl (hold e hmX) (hold e' hmY)
section
variable {ih : Ih} {L : List Oper} {Tt : Nat → List AV} {Hh : Nat → Heap} {fc : Nat → Nat → Prop}
structure Inv (C : Ctx) (L : List Oper) (Tt : Nat → List AV) (Hh : Nat → Heap) (μ0 : M) (w0 : World) (a0 : Act) (S : Nat → Prop) (a : Act) (w : World) (p : Nat) (μ : M) : Prop where
  hp : p ≤ L.length
  bd : p = 0 ∨ ∃ o', L[p - 1]? = some o' ∧ kindOf C o'.op = .eff
  eff : ∀ (j : Nat) (o : Oper), L[j]? = some o → kindOf C o.op = .eff → (S j ↔ j < p)
  cl : ∀ (j : Nat) (y : Oper), L[j]? = some y → S j → ∀ e ∈ y.after, Region.binds .any e = true → S e.on
  HR : HR (μ.cut (Hh p).n) (Hh p) w
  dom : ∀ A b, (Hh p).n ≤ A → μ A = some b → ∃ i, p ≤ i ∧ S i ∧ Act1 C L Tt i ∧ A = (Hh i).n
  pend : ∀ i, i < p → Act1 C L Tt i → ¬ S i → μ (Hh i).n = none
  early : ∀ (i : Nat) (o : Oper), p ≤ i → L[i]? = some o → kindOf C o.op = .alloc → Region.wanted o (ayielded L (Tt i)) = true → S i → ∀ b f, allocE C (opd (Tt i)) o.op = some (b, f) → ∃ bi, μ (Hh i).n = some bi ∧ bi.c < w.heap.size ∧ BlkR (μ.cut (Hh i).n) w bi b
  dist : ∀ i bi, p ≤ i → Act1 C L Tt i → S i → μ (Hh i).n = some bi → ∀ A b, A ≠ (Hh i).n → μ A = some b → (A < (Hh p).n → ((Hh p).get A).live = true) → b.c ≠ bi.c
  ops : ∀ j, j ≤ L.length → ∀ t, (∀ (i : Nat) (o : Oper), L[i]? = some o → o.dst = some t → (i < j → S i) ∧ (j ≤ i → ¬ S i)) → ∀ v, (Tt j)[t]? = some v → ∃ u, a.tmps[t]? = some u ∧ VR (μ.cut (max (Hh j).n (Hh p).n)) v u
  len : a.tmps.size = (Tt 0).length
  defs : a.defers = a0.defers
  le0 : M.le μ0 μ
  eq0 : ∀ A, A < (Hh 0).n → μ A = μ0 A
  os : w.os = w0.os
  tape : w.tape = w0.tape
  output : w.output = w0.output
  size : w0.heap.size ≤ w.heap.size
  keep : ∀ k, k < w0.heap.size → ¬ Own μ0 (Hh 0) k → w.heap[k]? = w0.heap[k]? ∧ ¬ Own (μ.cut (Hh p).n) (Hh p) k ∧ (∀ i bi, p ≤ i → Act1 C L Tt i → S i → μ (Hh i).n = some bi → bi.c ≠ k)
  ro : ∀ A, ((Hh p).get A).live = true → ((Hh p).get A).own = false → A < (Hh 0).n ∧ (Hh p).get A = (Hh 0).get A
variable {μ0 : M} {w0 : World} {a0 : Act} {S : Nat → Prop} {a : Act} {w : World} {p : Nat} {μ : M}
theorem Inv.dom_none (tr : Trc C ih L Tt Hh fc) (I : Inv C L Tt Hh μ0 w0 a0 S a w p μ) {i : Nat} (hi : p ≤ i) (ha : Act1 C L Tt i) (hn : ¬ S i) : μ (Hh i).n = none := by
  cases e : μ (Hh i).n with
  | none => rfl
  | some b =>
    obtain ⟨i', h1, h2, h3, h4⟩ := I.dom _ b (tr.monos hi (Nat.le_of_lt (tr.act_lt ha))) e
    have := tr.act_inj ha h3 h4
    subst this
    exact absurd h2 hn
theorem Inv.at (tr : Trc C ih L Tt Hh fc) (I : Inv C L Tt Hh μ0 w0 a0 S a w p μ) {k : Nat} (hpk : p ≤ k) (hk : k ≤ L.length) (hno : ∀ i o, p ≤ i → i < k → L[i]? = some o → kindOf C o.op ≠ .eff) : PI.HR (μ.cut (Hh k).n) (Hh k) w := by
  obtain ⟨q1, q2, q3⟩ := tr.quiet hpk hk hno
  have hmp := tr.monos hpk hk
  have hcut : M.le (μ.cut (Hh p).n) (μ.cut (Hh k).n) := M.cut_mono (M.le.refl _) hmp
  have hget : ∀ A b, A < (Hh k).n → (μ.cut (Hh k).n) A = some b → μ A = some b := fun A b h e => by unfold M.cut at e; rwa [if_pos h] at e
  have hput : ∀ A b, A < (Hh k).n → μ A = some b → (μ.cut (Hh k).n) A = some b := fun A b h e => by unfold M.cut; rwa [if_pos h]
  have hputp : ∀ A b, A < (Hh p).n → μ A = some b → (μ.cut (Hh p).n) A = some b := fun A b h e => by unfold M.cut; rwa [if_pos h]
  have hlt : ∀ A b, (μ.cut (Hh k).n) A = some b → A < (Hh k).n := fun A b e => by
    unfold M.cut at e; split at e
    · assumption
    · cases e
  have early : ∀ A b, (Hh p).n ≤ A → A < (Hh k).n → μ A = some b → ∃ i o blk f, p ≤ i ∧ i < k ∧ L[i]? = some o ∧ Act1 C L Tt i ∧ S i ∧ A = (Hh i).n ∧ allocE C (opd (Tt i)) o.op = some (blk, f) ∧ (Hh k).get A = blk ∧ b.c < w.heap.size ∧ BlkR (μ.cut (Hh i).n) w b blk := fun A b h1 h2 e => by
    obtain ⟨i, r1, r2, r3, r4⟩ := q2 A h1 h2
    obtain ⟨i', s1, s2, s3, s4⟩ := I.dom A b h1 e
    have := tr.act_inj r3 s3 (r4.symm.trans s4)
    subst this
    obtain ⟨o, t1, t2, t3⟩ := r3
    obtain ⟨blk, f, t4, -⟩ := tr.alloc_step t1 t2 t3
    obtain ⟨bi, t5, t6, t7⟩ := I.early i o r1 t1 t2 t3 s2 blk f t4
    rw [r4, t5] at e; cases e
    exact ⟨i, o, blk, f, r1, r2, t1, ⟨o, t1, t2, t3⟩, s2, r4, t4, by rw [r4]; exact q3 i o r1 r2 t1 t2 t3 blk f t4, t6, t7⟩
  refine ⟨?_, fun A hA => by unfold M.cut; rw [if_neg (by omega)], fun A b hl hm => ?_, fun A B a' b' hAB ho hl hmA hmB => ?_⟩
  · by_cases e : (Hh k).n = (Hh p).n
    · rw [e]; exact I.HR.lim
    · obtain ⟨i, r1, r2, ⟨o, t1, t2, t3⟩, r4⟩ := q2 ((Hh k).n - 1) (by omega) (by omega)
      obtain ⟨blk, f, -, t5, -⟩ := tr.alloc_step t1 t2 t3
      omega
  · have hAk := hlt A b hm
    have hm' := hget A b hAk hm
    by_cases hAp : A < (Hh p).n
    · rw [q1 A hAp] at hl ⊢
      obtain ⟨h1, h2⟩ := I.HR.blk A b hl (hputp A b hAp hm')
      exact ⟨h1, h2.mono hcut rfl⟩
    · obtain ⟨i, o, blk, f, r1, r2, r3, r4, r5, r6, r7, r8, r9, r10⟩ := early A b (by omega) hAk hm'
      rw [r8]
      exact ⟨r9, r10.mono (M.cut_mono (M.le.refl _) (tr.monos (by omega) hk)) rfl⟩
  · have hAk := hlt A a' hmA
    have hBk := hlt B b' hmB
    have hmA' := hget A a' hAk hmA
    have hmB' := hget B b' hBk hmB
    by_cases hAp : A < (Hh p).n
    · by_cases hBp : B < (Hh p).n
      · rw [q1 A hAp] at ho; rw [q1 B hBp] at hl
        exact I.HR.inj A B a' b' hAB ho hl (hputp A a' hAp hmA') (hputp B b' hBp hmB')
      · obtain ⟨i, o, blk, f, r1, r2, r3, r4, r5, r6, -⟩ := early B b' (by omega) hBk hmB'
        rw [q1 A hAp] at ho
        exact I.dist i b' r1 r4 r5 (r6 ▸ hmB') A a' (r6 ▸ hAB) hmA' (fun _ => Blk.live_of_own ho)
    · obtain ⟨i, o, blk, f, r1, r2, r3, r4, r5, r6, -⟩ := early A a' (by omega) hAk hmA'
      refine Ne.symm (I.dist i a' r1 r4 r5 (r6 ▸ hmA') B b' (r6 ▸ Ne.symm hAB) hmB' fun hBp => ?_)
      rw [q1 B hBp] at hl; exact hl
theorem Inv.fcS (tr : Trc C ih L Tt Hh fc) (I : Inv C L Tt Hh μ0 w0 a0 S a w p μ) : ∀ (n j : Nat), j ≤ n → ∀ y, L[j]? = some y → ∀ i, fc i j → S j → S i := by
  intro n
  induction n with
  | zero =>
    intro j hj y hy i hf hS
    obtain ⟨e, h1, h2, h3⟩ := tr.fce j y hy i hf
    have := tr.back j y hy e h1 h2
    omega
  | succ n ihn =>
    intro j hj y hy i hf hS
    obtain ⟨e, h1, h2, h3⟩ := tr.fce j y hy i hf
    have hlt := tr.back j y hy e h1 h2
    have hSe := I.cl j y hy hS e h1 h2
    rcases h3 with rfl | h3
    · exact hSe
    · have hl := (List.getElem?_eq_some_iff.1 hy).1
      exact ihn e.on (by omega) L[e.on] (List.getElem?_eq_getElem (by omega)) i h3 hSe
structure Ready (L : List Oper) (S : Nat → Prop) (k : Nat) (o : Oper) : Prop where
  ho : L[k]? = some o
  hn : ¬ S k
  dep : ∀ e ∈ o.after, Region.binds .any e = true → S e.on
variable {k : Nat} {o : Oper}
theorem Inv.fck (tr : Trc C ih L Tt Hh fc) (I : Inv C L Tt Hh μ0 w0 a0 S a w p μ) (R : Ready L S k o) {i : Nat} (h : fc i k) : S i := by
  obtain ⟨e, h1, h2, h3⟩ := tr.fce k o R.ho i h
  have hlt := tr.back k o R.ho e h1 h2
  have hSe := R.dep e h1 h2
  rcases h3 with rfl | h3
  · exact hSe
  · have hl := (List.getElem?_eq_some_iff.1 R.ho).1
    exact I.fcS tr e.on e.on (Nat.le_refl _) L[e.on] (List.getElem?_eq_getElem (by omega)) i h3 hSe
theorem Inv.kfc (tr : Trc C ih L Tt Hh fc) (I : Inv C L Tt Hh μ0 w0 a0 S a w p μ) (R : Ready L S k o) {i : Nat} {x : Oper} (hx : L[i]? = some x) (h : fc k i) : ¬ S i := fun hS => R.hn (I.fcS tr i i (Nat.le_refl _) x hx k h hS)
theorem Inv.before (tr : Trc C ih L Tt Hh fc) (I : Inv C L Tt Hh μ0 w0 a0 S a w p μ) (R : Ready L S k o) {i : Nat} {x : Oper} (hi : i < k) (hx : L[i]? = some x) (h : clash C L x o = true) : S i := I.fck tr R (tr.ord i k x o hi hx R.ho h)
theorem Inv.after (tr : Trc C ih L Tt Hh fc) (I : Inv C L Tt Hh μ0 w0 a0 S a w p μ) (R : Ready L S k o) {i : Nat} {x : Oper} (hi : k < i) (hx : L[i]? = some x) (h : clash C L o x = true) : ¬ S i := I.kfc tr R hx (tr.ord k i o x hi R.ho hx h)
theorem clash_dst {x y : Oper} {t : Tmp} (hx : x.dst = some t) (hy : t ∈ looks L y) : clash C L x y = true := by simp [clash, inOpt, hx, hy]
theorem clash_dst' {x y : Oper} {t : Tmp} (hx : y.dst = some t) (hy : t ∈ looks L x) : clash C L x y = true := by simp [clash, inOpt, hx, hy]
theorem clash_same {x y : Oper} {t : Tmp} (hx : x.dst = some t) (hy : y.dst = some t) : clash C L x y = true := by simp [clash, sameOpt, hx, hy]
theorem clash_eff {x y : Oper} (hx : kindOf C x.op = .eff) (hy : kindOf C y.op = .eff) : clash C L x y = true := by simp [clash, effLook, hx, hy]
theorem clash_el {x y : Oper} (hx : kindOf C x.op = .eff) (hy : kindOf C y.op = .look) : clash C L x y = true := by simp [clash, effLook, hx, hy]
theorem clash_le {x y : Oper} (hx : kindOf C x.op = .look) (hy : kindOf C y.op = .eff) : clash C L x y = true := by simp [clash, effLook, hx, hy]
theorem Inv.look (tr : Trc C ih L Tt Hh fc) (I : Inv C L Tt Hh μ0 w0 a0 S a w p μ) (R : Ready L S k o) {t : Tmp} (ht : t ∈ looks L o) {v : AV} (hv : (Tt k)[t]? = some v) : ∃ u, a.tmps[t]? = some u ∧ VR (μ.cut (max (Hh k).n (Hh p).n)) v u := by
  have hl := (List.getElem?_eq_some_iff.1 R.ho).1
  refine I.ops k (by omega) t (fun i x hx hd => ⟨fun hi => I.before tr R hi hx (clash_dst hd ht), fun hi => ?_⟩) v hv
  by_cases e : i = k
  · subst e; exact R.hn
  · exact I.after tr R (by omega) hx (clash_dst' hd ht)
theorem Inv.rho (tr : Trc C ih L Tt Hh fc) (I : Inv C L Tt Hh μ0 w0 a0 S a w p μ) (R : Ready L S k o) : RhoR (μ.cut (max (Hh k).n (Hh p).n)) (opd (Tt k)) a.eval o.op.operands := by
  intro x hx v hv
  have hl := (List.getElem?_eq_some_iff.1 R.ho).1
  cases x <;> simp only [opd] at hv
  case tmp t =>
    cases hv
    have ht : t ∈ looks L o := by
      unfold looks
      refine List.mem_append_left _ (List.mem_filterMap.2 ⟨.tmp t, by simpa using hx, rfl⟩)
    have hlen : (Tt k).length = a.tmps.size := (tr.len_T k (by omega)).trans I.len.symm
    cases e : (Tt k)[t]? with
    | none =>
      have h1 : (Tt k).getD t undefA = undefA := by simp [List.getD, e]
      have h2 : a.eval (.tmp t) = undef := by
        have : a.tmps[t]? = none := by simp at e ⊢; omega
        simp [Act.eval, Array.getD_eq_getD_getElem?, this]
      rw [h1, h2]; exact undefR
    | some v =>
      obtain ⟨u, hu, hr⟩ := I.look tr R ht e
      have h1 : (Tt k).getD t undefA = v := by simp [List.getD, e]
      have h2 : a.eval (.tmp t) = u := by simp [Act.eval, Array.getD_eq_getD_getElem?, hu]
      rw [h1, h2]; exact hr
  case const v => exact ofConst_sim hv
  case func f => cases hv; exact .fn (xs := #[]) (ys := #[]) .nil .nil
  case global g => cases hv
theorem Inv.wants (tr : Trc C ih L Tt Hh fc) (I : Inv C L Tt Hh μ0 w0 a0 S a w p μ) (R : Ready L S k o) {ops : Array Oper} (hL : ops.toList = L) : Region.wanted o (yielded ops a.tmps) = Region.wanted o (ayielded L (Tt k)) := by
  have hl := (List.getElem?_eq_some_iff.1 R.ho).1
  unfold Region.wanted
  cases hg : o.guard with
  | none => rfl
  | some gw =>
    obtain ⟨g, want⟩ := gw
    simp only
    rw [← hL, yielded_sim (T := Tt k) (μ := μ.cut (max (Hh k).n (Hh p).n))]
    · intro d hd v hv
      refine I.look tr R ?_ hv
      unfold looks
      refine List.mem_append_right _ ?_
      rw [hg]
      simp only
      have : L[g]? = ops[g]? := by rw [← hL]; simp
      rw [this]
      cases ho : ops[g]? with
      | none => simp [ho] at hd
      | some og => simp [ho] at hd; simp [hd]
    · exact (tr.len_T k (by omega)).trans I.len.symm
end
end Go.PI
