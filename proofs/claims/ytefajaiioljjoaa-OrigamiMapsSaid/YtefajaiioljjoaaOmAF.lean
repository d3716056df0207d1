/- Own work of the verifier: PiCall PiCall2 PiYield PiMap. -/
import Derived.Test.YtefajaiioljjoaaOmAE
import Derived.Test.YtefajaiioljjoaaOmAD
set_option linter.all false
set_option exponentiation.threshold 3000
set_option linter.deprecated false
namespace Go.PI
variable {P : Program} {C : Ctx} {μ : M}
def RdR (μ : M) (rd : Option Nat) (F : Fence) : Prop := match rd with
  | none => F.round = none
  | some l => ∃ bi, μ l = some bi ∧ F.round = some bi.c
def DefR (μ : M) (D : List Nat) (ds : List Deferred) : Prop := All2 (fun A d => ∃ bi, μ A = some bi ∧ d = { target := .collected bi.c, args := #[] }) D ds
structure StR (μ : M) (s : St) (a : Act) (w : World) : Prop where
  T : VRs μ s.T a.tmps.toList
  D : DefR μ s.D a.defers
  H : HR μ s.H w
def exR : Ex → Exit
  | .normal => .normal
  | .exit id => .exit id
  | .goto l => .goto l
  | .ret => .ret
def SimPost (μ : M) (s : St) (w : World) (e : Ex) (s' : St) (e' : Exit) (a' : Act) (w' : World) : Prop := e' = exR e ∧ ∃ μ', StR μ' s' a' w' ∧ Fr μ s.H w μ' s'.H w'
def IhOk (P : Program) (ih : Ih) : Prop := ∀ rd c s e s', ih rd c s = some (e, s') → ∀ (F : Fence) (n : Nat), Wd F → ∀ μ a w, RdR μ rd F → StR μ s a w → c.wpIn F n P (SimPost μ s w e s') a w
theorem DefR.mono {μ ν : M} (h : M.le μ ν) {D : List Nat} {ds : List Deferred} (k : DefR μ D ds) : DefR ν D ds := All2.mono' (fun _ _ ⟨bi, h1, h2⟩ => ⟨bi, h _ _ h1, h2⟩) k
theorem undefR : VR μ undefA undef := .tup .nil
theorem shut_sim {F : Fence} {n : Nat} {fn : Func} {tmps : Array Value} {R : Ending → World → Prop} : ∀ {D : List Nat} {ds : List Deferred} {H H' : Heap} {w : World}, shutMarks D H = some H' → DefR μ D ds → HR μ H w →
    (∀ w', HR μ H' w' → Fr μ H w μ H' w' → LeavesInM F n P fn tmps R [] .returning w') → LeavesInM F n P fn tmps R ds .returning w
  | [], _, H, H', w, h, hd, hH, k => by
    cases hd; simp [shutMarks] at h; subst h; exact k w hH (Fr.refl _ _ _)
  | A :: D, _, H, H', w, h, hd, hH, k => by
    cases hd with
    | @cons _ d _ ds hb hd =>
      obtain ⟨bi, hm, rfl⟩ := hb
      unfold shutMarks at h
      split at h
      · rename_i hg
        have hb := (hH.blk A bi (by rw [hg]; rfl) hm)
        rw [hg] at hb
        obtain ⟨hlt, hb⟩ := hb
        have hs := hH.set (w' := w.putObj bi.c (.deferred none)) (blk := .dead) (by rw [hg]; rfl) hm ⟨rfl, rfl, rfl⟩ (by simp) (fun k hk => World.putObj_heap_other hk) trivial
        refine ⟨by simp, .inl ⟨bi.c, _, rfl, run_takeDeferred hb, ?_⟩⟩
        exact shut_sim h hd hs.1 fun w' h1 h2 => k w' h1 (hs.2.trans h2)
      · cases h
theorem getD_sim {T : List AV} {vs : Array Value} (h : VRs μ T vs.toList) (t : Nat) : VR μ (T.getD t undefA) (vs.getD t undef) := by
  cases e : T[t]? with
  | none =>
    have e' := h.get_none e
    have h1 : T.getD t undefA = undefA := by simp [List.getD, e]
    have h2 : vs.getD t undef = undef := by
      have : vs[t]? = none := by simpa using e'
      simp [Array.getD_eq_getD_getElem?, this]
    rw [h1, h2]; exact undefR
  | some a =>
    obtain ⟨v, hv, hr⟩ := h.get e
    have h1 : T.getD t undefA = a := by simp [List.getD, e]
    have h2 : vs.getD t undef = v := by
      have : vs[t]? = some v := by simpa using hv
      simp [Array.getD_eq_getD_getElem?, this]
    rw [h1, h2]; exact hr
theorem results_sim (hC : Ctx.Ok P C) {T : List AV} {tmps : Array Value} {H : Heap} {w : World} (hT : VRs μ T tmps.toList) (hH : HR μ H w) : ∀ {rs : List ResultVar} {vs : List AV}, resultsE C T H rs = some vs →
    ∃ us : List Value, (rs.mapM fun | .tmp t => pure (tmps.getD t undef) | .cell a t => do loadVar t (← asAddr (tmps.getD a undef)) : Sem (List Value)).run P w = .ok us w ∧ VRs μ vs us
  | [], vs, h => by simp [resultsE] at h; subst h; exact ⟨[], rfl, .nil⟩
  | .tmp t :: r, vs, h => by
    unfold resultsE at h
    split at h
    · rename_i vs' e
      cases h
      obtain ⟨us, hr, hv⟩ := results_sim hC hT hH e
      refine ⟨tmps.getD t undef :: us, ?_, .cons (getD_sim hT t) hv⟩
      simp only [List.mapM_cons, Sem.run_bind, Sem.run_pure, Result.andThen_ok]
      rw [hr]; rfl
    · cases h
  | .cell a t :: r, vs, h => by
    unfold resultsE at h
    split at h
    · rename_i v vs' e1 e2
      cases h
      obtain ⟨us, hr, hv⟩ := results_sim hC hT hH e2
      obtain ⟨u, hu, hvu⟩ := loadE_sim hC hH e1 (getD_sim hT a)
      refine ⟨u :: us, ?_, .cons hvu hv⟩
      have hl : (do loadVar t (← asAddr (tmps.getD a undef)) : Sem Value).run P w = .ok u w := by
        have hp : ∃ ad, tmps.getD a undef = .pointer (some ad) := by
          have := getD_sim hT a
          unfold loadE at e1
          split at e1
          · rename_i b o hpt
            rw [hpt] at this
            obtain ⟨bi, -, e⟩ := this.ptr_inv
            exact ⟨_, e⟩
          · cases e1
        obtain ⟨ad, hp⟩ := hp
        rw [hp] at hu ⊢
        simpa [Instr.loadAt, Instr.sureAddr, asAddr] using hu
      simp only [List.mapM_cons, Sem.run_bind, Sem.run_pure, Result.andThen_ok] at hl ⊢
      rw [hl]
      simp only [Result.andThen_ok]
      rw [hr]; rfl
    · cases h
def retOf : List AV → AV
  | [v] => v
  | vs => .tup vs
theorem results_run (hC : Ctx.Ok P C) {T : List AV} {a : Array Value} {H : Heap} {w : World} (hT : VRs μ T a.toList) (hH : HR μ H w) {fn : Func} {rs : List ResultVar} (hr : fn.results.toList = rs) {vs : List AV} (h : resultsE C T H rs = some vs) :
    ∃ u, (results fn a).run P w = .ok u w ∧ VR μ (retOf vs) u := by
  obtain ⟨us, hu, hv⟩ := results_sim hC hT hH h
  have hm : (fn.results.mapM fun | .tmp t => pure (a.getD t undef) | .cell a' t => do loadVar t (← asAddr (a.getD a' undef)) : Sem (Array Value)).run P w = .ok us.toArray w := by
    rw [Array.mapM_eq_mapM_toList, hr]
    simp only [Sem.run_map, hu, Result.andThen_ok]
  unfold results
  simp only [Sem.run_bind, Sem.run_pure]
  refine ⟨if h : us.toArray.size = 1 then us.toArray[0] else .tuple us.toArray, congrArg (fun r => Result.andThen r fun vs w' => .ok (if h : vs.size = 1 then vs[0] else .tuple vs) w') hm, ?_⟩
  cases hv with
  | nil => exact .tup .nil
  | cons h1 h2 =>
    cases h2 with
    | nil => simpa [retOf] using h1
    | cons h3 h4 => simpa [retOf] using VR.tup (xs := (_ :: _ :: _ : List Value).toArray) (.cons h1 (.cons h3 h4))
end Go.PI
namespace Go.PI
variable {P : Program} {C : Ctx} {μ : M}
theorem wd_plain {F : Fence} (h : Wd F) : Wd F.plain := h
theorem wd_round {F : Fence} (h : Wd F) (l : Nat) : Wd (F.inRound l) := h
theorem callB_sim (hC : Ctx.Ok P C) {ih : Ih} (hih : IhOk P ih) {f : FuncId} {as : List AV} {H H' : Heap} {v : AV} (h : callB C ih f as H = some (v, H')) {args : Array Value} (ha : VRs μ as args.toList) {w : World} (hH : HR μ H w) : CallR P μ H w f args v H' := by
  unfold callB at h
  split at h
  · -- a function of the machine's own
    split at h
    · rename_i x hx
      cases h
      have : ∃ y, args = #[y] ∧ VR μ v y := by
        obtain ⟨l⟩ := args; simp only at ha
        cases ha with
        | cons h1 h2 => cases h2; exact ⟨_, rfl, h1⟩
      obtain ⟨y, rfl, hy⟩ := this
      exact .inl ⟨y, w, hC.same f hx y w, μ, hy, hH, Fr.refl _ _ _⟩
    · rename_i e n hx
      split at h
      · rename_i hc
        obtain ⟨c1, c2, c3⟩ := hc
        cases h
        have : args = #[.int .i64 n] := by
          obtain ⟨l⟩ := args; simp only at ha
          cases ha with
          | cons h1 h2 => cases h2; rw [h1.int_inv]
        subst this
        obtain ⟨cap, cs, k, k1, k1m, k2, k3⟩ := hC.noZero f e hx n w c1 c2
        have hH' : HR μ H ({ w with drawn := k } : World) := hH.same rfl
        have hp := hH'.push (w' := ({ w with drawn := k } : World).alloc (.cells cs e)) c3 (bi := ⟨w.heap.size, cs.size, 0⟩) (b := .cells true e []) (Nat.le_refl _) (by simp only [World.size_alloc]; omega) ⟨rfl, rfl, rfl⟩ (by simp only [World.size_alloc]; omega)
          (fun k hk => RowKit.Below.heap_alloc _ _ _ hk) (blk0 rfl ⟨cs, (0, 0), World.alloc_heap_new _ _, rfl, by simp, .nil, fun _ => rfl⟩)
        refine .inl ⟨_, _, k3, _, ?_, hp.1, ⟨hp.2.le, hp.2.eq, hp.2.n, hp.2.os, hp.2.tape, hp.2.output, hp.2.size, hp.2.keep, hp.2.ro⟩⟩
        exact .slu (off := 0) (M.set_self _ _ _) (by simp [k2]) (by omega) k1m
      · cases h
    · cases h
  · rename_i fi hfi
    obtain ⟨fn, f1, f2, f3, f4, f5⟩ := hC.fn f fi hfi
    have hbody : fn.body.isNone = false := by rw [f4]; rfl
    have hcall : (callFunc f args).run P w = .ok (.enter f args) w := by
      have f5' : ¬ fn.name = "runtime.NumGoroutine" := by simpa using f5
      simp [callFunc, f1, f5', f4]
    refine .inr ⟨hcall, fun F n hF => ?_⟩
    have key : ∀ e s, ih none fi.body ⟨as ++ List.replicate (fi.ntmps - as.length) undefA, H, []⟩ = some (e, s) → (e = .normal ∨ e = .ret) →
        (match shutMarks s.D s.H with
          | some H' => match resultsE C s.T H' fi.results with
            | some [v] => some (v, H')
            | some vs => some (.tup vs, H')
            | none => none
          | none => none) = some (v, H') → CallsIn F n P f args w fun e w' => ∃ u, e = .returned u ∧ EffR μ H w v H' u w' := fun e s hrun he hres => by
      have hlen : as.length = args.size := by rw [ha.length]; simp
      have hwp := hih none fi.body _ e s hrun F.plain n (wd_plain hF) μ { tmps := args ++ Array.replicate (fn.ntmps - args.size) undef, defers := [] } w rfl
        ⟨by rw [f2, hlen]; simpa using ha.append (All2.replicate undefR (fi.ntmps - args.size)), .nil, hH⟩
      have hcalls : CallsIn F.plain n P f args w fun e w' => ∃ u, e = .returned u ∧ EffR μ H w v H' u w' := by
        refine callsIn_of_wp_marks f1 f4 (hF.1 f) (wpIn_mono hwp ?_) rfl
        rintro e' a' w' ⟨rfl, μ', hst, hfr⟩
        have hleave : LeavesInM F.plain n P fn a'.tmps (fun e w' => ∃ u, e = .returned u ∧ EffR μ H w v H' u w') a'.defers .returning w' := by
          split at hres
          · rename_i H2 hsh
            refine shut_sim hsh hst.D hst.H fun w2 g1 g2 => ?_
            have hall : ∀ vs, resultsE C s.T H2 fi.results = some vs → retOf vs = v → H2 = H' → LeavesInM F.plain n P fn a'.tmps (fun e w' => ∃ u, e = .returned u ∧ EffR μ H w v H' u w') [] .returning w2 := fun vs hvs hv hH2 => by
              subst hH2
              obtain ⟨u, hu, hvu⟩ := results_run hC hst.T g1 f3 hvs
              rw [hv] at hvu
              exact ⟨u, hu, u, rfl, μ', hvu, g1, hfr.trans g2⟩
            split at hres
            · rename_i v' hv'
              cases hres
              exact hall _ hv' rfl rfl
            · rename_i vs hne hv'
              cases hres
              refine hall _ hv' ?_ rfl
              cases vs with
              | nil => rfl
              | cons x xs => cases xs with
                | nil => exact absurd rfl (hne x)
                | cons _ _ => rfl
            · cases hres
          · cases hres
        rcases he with rfl | rfl <;> exact hleave
      exact hcalls
    split at h
    · rename_i s hrun; exact key _ _ hrun (.inl rfl) h
    · rename_i s hrun; exact key _ _ hrun (.inr rfl) h
    · cases h
theorem callF_sim (hC : Ctx.Ok P C) {ih : Ih} (hih : IhOk P ih) {f : FuncId} {as : List AV} {H H' : Heap} {v : AV} (h : callF C ih f as H = some (v, H')) {args : Array Value} (ha : VRs μ as args.toList) {w : World} (hH : HR μ H w) : CallR P μ H w f args v H' := by
  unfold callF at h
  split at h
  · rename_i r hr
    cases h
    unfold sumE at hr
    split at hr
    · rename_i S hS
      exact hC.sum f S as H v H' hS hr μ args w ha hH
    · cases hr
  · exact callB_sim hC hih h ha hH
theorem foldPar_sim : ∀ {ps : List Tmp} {T as : List AV} {tm : Array Value} {vs : List Value}, VRs μ T tm.toList → VRs μ as vs → ps.length = as.length →
    VRs μ (foldPar T ps as) ((ps.zip vs).foldl (fun (t : Array Value) (p : Tmp × Value) => t.setIfInBounds p.1 p.2) tm).toList
  | [], T, as, tm, vs, hT, ha, hl => by
    simpa [foldPar] using hT
  | p :: ps, T, [], tm, vs, hT, ha, hl => by simp at hl
  | p :: ps, T, a :: as, tm, vs, hT, ha, hl => by
    cases ha with
    | @cons _ v _ vs h1 h2 =>
      simp only [foldPar, List.zip_cons_cons, List.foldl_cons]
      exact foldPar_sim (by simpa using hT.set h1 p) h2 (by simpa using hl)
end Go.PI
namespace Go.PI
variable {P : Program} {C : Ctx} {μ : M}
theorem HR.loop {H : Heap} {w : World} (h : HR μ H w) {b : Nat} {bi : BI} {L : ALoop} (hb : H.get b = .loop L) (hm : μ b = some bi) :
    bi.c < w.heap.size ∧ ∃ lp, w.heap[bi.c]? = some (.loop lp) ∧ lp.state = L.state ∧ lp.pending = L.pending ∧ VRs μ L.tmps lp.tmps.toList ∧ lp.params = L.params ∧ lp.assign = L.assign ∧ lp.body = L.body ∧ ∃ bd, μ L.dfr = some bd ∧ lp.defers = bd.c := by
  have := h.blk b bi (by rw [hb]; rfl) hm
  rw [hb] at this
  exact this
theorem set_loop {H : Heap} {w : World} (hH : HR μ H w) {b : Nat} {bi : BI} {L : ALoop} (hb : H.get b = .loop L) (hm : μ b = some bi) {lp : Loop} (hl : w.heap[bi.c]? = some (.loop lp)) (st : LoopState) (pe : Option Code) :
    HR μ (H.set b (.loop { L with state := st, pending := pe })) (w.putObj bi.c (.loop { lp with state := st, pending := pe })) ∧ Fr μ H w μ (H.set b (.loop { L with state := st, pending := pe })) (w.putObj bi.c (.loop { lp with state := st, pending := pe })) := by
  obtain ⟨hlt, lp', e1, -, -, e4, e5, e6, e7, e8⟩ := hH.loop hb hm
  rw [hl] at e1; cases e1
  exact hH.set (by rw [hb]; rfl) hm ⟨rfl, rfl, rfl⟩ (by simp) (fun k hk => World.putObj_heap_other hk) ⟨_, World.putObj_heap_same hlt, rfl, rfl, e4, e5, e6, e7, e8⟩
theorem yieldF_sim {ih : Ih} (hih : IhOk P ih) {l : Nat} {as : List AV} {H H' : Heap} {v : AV} (h : yieldF ih l as H = some (v, H')) {args : Array Value} (ha : VRs μ as args.toList) {bi : BI} (hm : μ l = some bi) {w : World} (hH : HR μ H w) :
    ∃ f tmps assign body, (Instr.yield bi.c args).run P w = .ok (.round bi.c f tmps assign body) w ∧ ∀ (F : Fence) (n : Nat), Wd F → RoundIn F n P bi.c f tmps assign body w fun e w' => ∃ u, e = .returned u ∧ EffR μ H w v H' u w' := by
  unfold yieldF at h
  split at h
  · rename_i L hg
    split at h
    · rename_i hc
      obtain ⟨hc1, hc2⟩ := hc
      obtain ⟨hlt, lp, e1, e2, e3, e4, e5, e6, e7, e8⟩ := hH.loop hg hm
      have hsz : args.size = lp.params.size := by rw [e5, ← hc1, ha.length]; simp
      refine ⟨_, _, _, _, run_yield e1 hsz, fun F n hF => roundIn_of_wpIn (hF.1 _) ?_⟩
      split at h
      · rename_i T1 H1 hr1
        have htm : VRs μ (foldPar L.tmps L.params.toList as) ((lp.params.zip args).foldl (fun tmps (p : Tmp × Value) => tmps.setIfInBounds p.1 p.2) lp.tmps).toList := by
          rw [← Array.foldl_toList, Array.toList_zip, e5]
          exact foldPar_sim e4 ha (by simpa using hc1.symm)
        rw [e6, e7]
        refine wpIn_mono (hih (some l) L.assign _ _ _ hr1 (F.inRound bi.c) n (wd_round hF _) μ _ w ⟨bi, hm, rfl⟩ ⟨htm, .nil, hH⟩) ?_
        rintro e' a1 w1 ⟨rfl, μ1, hs1, hf1⟩
        have hm1 := hf1.le _ _ hm
        split at h
        · rename_i L1 hg1
          split at h
          · rename_i hst1
            obtain ⟨hlt1, lp1, g1, g2, -⟩ := hs1.H.loop hg1 hm1
            obtain ⟨b1, b2⟩ := set_loop hs1.H hg1 hm1 g1 .busy L1.pending
            have hpend : lp1.pending = L1.pending := by
              obtain ⟨_, lp', q1, _, q3, _⟩ := hs1.H.loop hg1 hm1
              rw [g1] at q1; cases q1; exact q3
            have hbr := run_beginRound (P := P) g1 (g2.trans hst1)
            have hw2 : ({ lp1 with state := .busy } : Loop) = { lp1 with state := .busy, pending := L1.pending } := by rw [← hpend]
            rw [hw2] at hbr
            refine ⟨_, hbr, ?_⟩
            split at h
            · rename_i e _ H2 hr2
              refine wpIn_mono (hih (some l) L.body _ _ _ hr2 (F.inRound bi.c) n (wd_round hF _) μ1 a1 _ ⟨bi, hm1, rfl⟩ ⟨hs1.T, hs1.D, b1⟩) ?_
              rintro e' a2 w3 ⟨rfl, μ2, hs2, hf2⟩
              have hm2 := hf2.le _ _ hm1
              split at h
              · rename_i L2 hg2
                cases h
                obtain ⟨hlt2, lp2, q1, -⟩ := hs2.H.loop hg2 hm2
                obtain ⟨c1, c2⟩ := set_loop hs2.H hg2 hm2 q1 (if e.jump.isNone then .ready else .done) e.jump
                have fin : ∃ v' w', (Instr.endRound bi.c e.jump).run P w3 = .ok v' w' ∧ ∃ u, Ending.returned v' = .returned u ∧ EffR μ H w (.bool e.jump.isNone) (H2.set l (.loop { L2 with state := if e.jump.isNone then .ready else .done, pending := e.jump })) u w' :=
                  ⟨_, _, run_endRound e.jump q1, _, rfl, μ2, .bool _, c1, ((hf1.trans b2).trans hf2).trans c2⟩
                cases e <;> exact fin
              · cases h
            · cases h
          · cases h
        · cases h
      · cases h
    · cases h
  · cases h
end Go.PI
/- MAPS OF INTEGERS. -/
namespace Go.PI
variable {P : Program} {C : Ctx} {μ : M}
theorem map_find {k : IntKind} {n : Int} : ∀ {es : List (Int × AV)} {ms : List MapEntry} (i : Nat), All2 (EntR μ k) es ms →
    (mapGet es n = none ∧ Instr.findNow (.int k) (.int k n) ms i = some none ∧ ∀ (a : AV) (u : Value) (c : Nat), VR μ a u → All2 (EntR μ k) (mapSet es n a) (ms ++ [{ key := .int k n, val := u, born := c }])) ∨
    ∃ j e a, mapGet es n = some a ∧ VR μ a e.val ∧ Instr.findNow (.int k) (.int k n) ms i = some (some (i + j, e.val)) ∧ ms[j]? = some e ∧ e.key = .int k n ∧
      ∀ (b : AV) (u : Value), VR μ b u → All2 (EntR μ k) (mapSet es n b) (ms.modify j fun e => { e with key := .int k n, val := u })
  | [], _, i, h => by
    cases h
    exact .inl ⟨rfl, rfl, fun a u c hv => .cons ⟨rfl, hv⟩ .nil⟩
  | (k', x) :: es, _, i, h => by
    cases h with
    | @cons _ m _ ms h1 h2 =>
      obtain ⟨hk, hx⟩ := h1
      simp only at hk hx
      by_cases hn : k' = n
      · subst hn
        refine .inr ⟨0, m, x, ?_, hx, ?_, rfl, hk, fun b u hv => ?_⟩
        · simp [mapGet]
        · simp [Instr.findNow, Instr.sameNow, hk]
        · simp only [mapSet, beq_self_eq_true]
          exact .cons ⟨rfl, hv⟩ h2
      · have hb : (k' == n) = false := by simpa using hn
        have hb2 : (n == k') = false := by simpa using fun e => hn e.symm
        have hf : ∀ i, Instr.findNow (.int k) (.int k n) (m :: ms) i = Instr.findNow (.int k) (.int k n) ms (i + 1) := fun i => by
          simp only [Instr.findNow, Instr.sameNow, hk, if_true, hb2]
        rcases map_find (n := n) (i + 1) h2 with ⟨q1, q2, q3⟩ | ⟨j, e, a, q1, q2, q3, q4, q5, q6⟩
        · refine .inl ⟨by simp [mapGet, hb, q1], by rw [hf]; exact q2, fun a u c hv => ?_⟩
          simp only [mapSet, hb]
          exact .cons ⟨hk, hx⟩ (q3 a u c hv)
        · refine .inr ⟨j + 1, e, a, by simp [mapGet, hb, q1], q2, by rw [hf, q3]; congr 2; simp; omega, by simpa using q4, q5, fun b u hv => ?_⟩
          simp only [mapSet, hb, List.modify_succ_cons]
          exact .cons ⟨hk, hx⟩ (q6 b u hv)
theorem sameBs_iff (a b : ByteArray) : sameBs a b = true ↔ a = b := by
  unfold sameBs
  rw [beq_iff_eq]
  constructor
  · intro h; cases a; cases b; simpa using h
  · rintro rfl; rfl
theorem smap_find {n : ByteArray} : ∀ {es : List (ByteArray × AV)} {ms : List MapEntry} (i : Nat), All2 (EntS μ) es ms →
    (smapGet es n = none ∧ Instr.findNow .string (.string n) ms i = some none ∧ ∀ (a : AV) (u : Value) (c : Nat), VR μ a u → All2 (EntS μ) (smapSet es n a) (ms ++ [{ key := .string n, val := u, born := c }])) ∨
    ∃ j e a, smapGet es n = some a ∧ VR μ a e.val ∧ Instr.findNow .string (.string n) ms i = some (some (i + j, e.val)) ∧ ms[j]? = some e ∧ e.key = .string n ∧
      ∀ (b : AV) (u : Value), VR μ b u → All2 (EntS μ) (smapSet es n b) (ms.modify j fun e => { e with key := .string n, val := u })
  | [], _, i, h => by
    cases h
    exact .inl ⟨rfl, rfl, fun a u c hv => .cons ⟨rfl, hv⟩ .nil⟩
  | (k', x) :: es, _, i, h => by
    cases h with
    | @cons _ m _ ms h1 h2 =>
      obtain ⟨hk, hx⟩ := h1
      simp only at hk hx
      by_cases hn : k' = n
      · subst hn
        have hs : sameBs k' k' = true := (sameBs_iff _ _).2 rfl
        have hs2 : Instr.sameNow .string (.string k') (.string k') = some true := by
          simp [Instr.sameNow, MapKept.bytes_beq]
        refine .inr ⟨0, m, x, ?_, hx, ?_, rfl, hk, fun b u hv => ?_⟩
        · simp [smapGet, hs]
        · simp [Instr.findNow, hk, hs2]
        · simp only [smapSet, hs]
          exact .cons ⟨rfl, hv⟩ h2
      · have hb : sameBs k' n = false := by rw [Bool.eq_false_iff]; exact fun e => hn ((sameBs_iff _ _).1 e)
        have hf : ∀ i, Instr.findNow .string (.string n) (m :: ms) i = Instr.findNow .string (.string n) ms (i + 1) := fun i => by
          have hs2 : Instr.sameNow .string (.string n) m.key = some false := by
            rw [hk]
            obtain ⟨r, hr, hi⟩ := MapKept.sameNow_of_keys (d := .string) (a := .string n) (b := .string k') trivial trivial
            rw [hr]
            cases r with
            | false => rfl
            | true => exact absurd (by simpa using (hi.1 rfl).symm) hn
          simp only [Instr.findNow, hs2]
        rcases smap_find (n := n) (i + 1) h2 with ⟨q1, q2, q3⟩ | ⟨j, e, a, q1, q2, q3, q4, q5, q6⟩
        · refine .inl ⟨by simp [smapGet, hb, q1], by rw [hf]; exact q2, fun a u c hv => ?_⟩
          simp only [smapSet, hb]
          exact .cons ⟨hk, hx⟩ (q3 a u c hv)
        · refine .inr ⟨j + 1, e, a, by simp [smapGet, hb, q1], q2, by rw [hf, q3]; congr 2; simp; omega, by simpa using q4, q5, fun b u hv => ?_⟩
          simp only [smapSet, hb, List.modify_succ_cons]
          exact .cons ⟨hk, hx⟩ (q6 b u hv)
theorem HR.smap {H : Heap} {w : World} (h : HR μ H w) {b : Nat} {bi : BI} {es : List (ByteArray × AV)} (hb : H.get b = .smap es) (hm : μ b = some bi) :
    bi.c < w.heap.size ∧ ∃ ms clock, w.heap[bi.c]? = some (.map ms clock) ∧ All2 (EntS μ) es ms.toList := by
  have := h.blk b bi (by rw [hb]; rfl) hm
  rw [hb] at this
  exact this
theorem makeMap_sim (hC : Ctx.Ok P C) {H H' : Heap} {w : World} (hH : HR μ H w) {t : TypeId} {v : AV} (h : makeMapE C t H = some (v, H')) : ∃ u w', (Instr.makeMap t none).run P w = .ok u w' ∧ EffR μ H w v H' u w' := by
  unfold makeMapE at h
  split at h
  · cases h
  · rename_i hl
    split at h
    · split at h
      · rename_i k _ _ _ _
        cases h
        have hn : H.n < PI.lim := by omega
        have hp := hH.push (w' := w.alloc (.map #[] 0)) hn (bi := ⟨w.heap.size, 0, 0⟩) (b := .map k []) (Nat.le_refl _) (by simp only [World.size_alloc]; omega) ⟨rfl, rfl, rfl⟩ (by simp only [World.size_alloc]; omega)
          (fun k hk => RowKit.Below.heap_alloc _ _ _ hk) ⟨#[], 0, (MapKept.heap_alloc w _).1, .nil⟩
        exact ⟨.map (some w.heap.size), _, by simp [Instr.makeMap], _, .mp (bi := ⟨w.heap.size, 0, 0⟩) (M.set_self _ _ _), hp.1, hp.2⟩
      · cases h
        have hn : H.n < PI.lim := by omega
        have hp := hH.push (w' := w.alloc (.map #[] 0)) hn (bi := ⟨w.heap.size, 0, 0⟩) (b := .smap []) (Nat.le_refl _) (by simp only [World.size_alloc]; omega) ⟨rfl, rfl, rfl⟩ (by simp only [World.size_alloc]; omega)
          (fun k hk => RowKit.Below.heap_alloc _ _ _ hk) ⟨#[], 0, (MapKept.heap_alloc w _).1, .nil⟩
        exact ⟨.map (some w.heap.size), _, by simp [Instr.makeMap], _, .mp (bi := ⟨w.heap.size, 0, 0⟩) (M.set_self _ _ _), hp.1, hp.2⟩
      · cases h
    · cases h
theorem HR.map {H : Heap} {w : World} (h : HR μ H w) {b : Nat} {bi : BI} {k : IntKind} {es : List (Int × AV)} (hb : H.get b = .map k es) (hm : μ b = some bi) :
    bi.c < w.heap.size ∧ ∃ ms clock, w.heap[bi.c]? = some (.map ms clock) ∧ All2 (EntR μ k) es ms.toList := by
  have := h.blk b bi (by rw [hb]; rfl) hm
  rw [hb] at this
  exact this
theorem VR.mp_inv {b : Nat} {v : Value} (h : VR μ (.mp b) v) : ∃ bi, μ b = some bi ∧ v = .map (some bi.c) := by
  cases h with
  | mp h => exact ⟨_, h, rfl⟩
theorem lookup_sim (hC : Ctx.Ok P C) {H H' : Heap} {w : World} (hH : HR μ H w) {t : TypeId} {m key v : AV} {ok : Bool} {m' key' : Value} (h : lookupE C t m key ok H = some (v, H')) (hm : VR μ m m') (hk : VR μ key key') :
    ∃ u, (Instr.lookup t m' key' ok).run P w = .ok u w ∧ VR μ v u ∧ H' = H := by
  unfold lookupE at h
  split at h
  · rename_i kt et _ _ _ b k n hi
    obtain ⟨bi, hb, rfl⟩ := hm.mp_inv
    have := hk.int_inv; subst this
    obtain ⟨ti, z, h1, -⟩ := hC.got hi
    split at h
    · rename_i k1 _ _ _ ei k2 es hkt het hg
      obtain ⟨tk, zk, hk1, -⟩ := hC.got hkt
      obtain ⟨te, ze, -, h2, h3, -, hz, hzr, hzl⟩ := hC.got het
      obtain ⟨hlt, ms, clock, hw, hent⟩ := hH.map hg hb
      split at h
      · rename_i hc
        obtain ⟨rfl, rfl⟩ := hc
        have hck := MapKept.run_checkKey (P := P) (w := w) (k := .int k n) hk1 (by exact rfl) ms.isEmpty 9999
        rcases map_find (n := n) 0 hent with ⟨q1, q2, q3⟩ | ⟨j, e, a, q1, q2, q3, q4, q5, q6⟩
        · rw [q1] at h
          simp only [Option.some.injEq, Prod.mk.injEq] at h
          obtain ⟨rfl, rfl⟩ := h
          have hzv : VR μ ei.zero ze := hzr.mono (fun _ _ e => by cases e)
          refine ⟨if ok then .tuple #[ze, .bool false] else ze, ?_, ?_, rfl⟩
          · simp only [Instr.lookup, Sem.run_bind, run_und h1, Result.andThen_ok, MapKept.run_getObj_map hw, Sem.run_pure, hck, MapKept.run_findKey hk1 q2, run_zero h2 hz]
          · cases ok
            · exact hzv
            · exact .tup (xs := #[ze, .bool false]) (.cons hzv (.cons (.bool _) .nil))
        · rw [q1] at h
          simp only [Option.some.injEq, Prod.mk.injEq] at h
          obtain ⟨rfl, rfl⟩ := h
          refine ⟨if ok then .tuple #[e.val, .bool true] else e.val, ?_, ?_, rfl⟩
          · simp only [Instr.lookup, Sem.run_bind, run_und h1, Result.andThen_ok, MapKept.run_getObj_map hw, Sem.run_pure, hck, MapKept.run_findKey hk1 q3]
          · cases ok
            · exact q2
            · exact .tup (xs := #[e.val, .bool true]) (.cons q2 (.cons (.bool _) .nil))
      · cases h
    · cases h
  · rename_i kt et _ _ _ b n hi
    obtain ⟨bi, hb, rfl⟩ := hm.mp_inv
    have := hk.str_inv; subst this
    obtain ⟨ti, z, h1, -⟩ := hC.got hi
    split at h
    · rename_i _ _ _ ei es hkt het hg
      obtain ⟨tk, zk, hk1, -⟩ := hC.got hkt
      obtain ⟨te, ze, -, h2, h3, -, hz, hzr, hzl⟩ := hC.got het
      obtain ⟨hlt, ms, clock, hw, hent⟩ := hH.smap hg hb
      have hck := MapKept.run_checkKey (P := P) (w := w) (k := .string n) hk1 trivial ms.isEmpty 9999
      rcases smap_find (n := n) 0 hent with ⟨q1, q2, q3⟩ | ⟨j, e, a, q1, q2, q3, q4, q5, q6⟩
      · rw [q1] at h
        simp only [Option.some.injEq, Prod.mk.injEq] at h
        obtain ⟨rfl, rfl⟩ := h
        have hzv : VR μ ei.zero ze := hzr.mono (fun _ _ e => by cases e)
        refine ⟨if ok then .tuple #[ze, .bool false] else ze, ?_, ?_, rfl⟩
        · simp only [Instr.lookup, Sem.run_bind, run_und h1, Result.andThen_ok, MapKept.run_getObj_map hw, Sem.run_pure, hck, MapKept.run_findKey hk1 q2, run_zero h2 hz]
        · cases ok
          · exact hzv
          · exact .tup (xs := #[ze, .bool false]) (.cons hzv (.cons (.bool _) .nil))
      · rw [q1] at h
        simp only [Option.some.injEq, Prod.mk.injEq] at h
        obtain ⟨rfl, rfl⟩ := h
        refine ⟨if ok then .tuple #[e.val, .bool true] else e.val, ?_, ?_, rfl⟩
        · simp only [Instr.lookup, Sem.run_bind, run_und h1, Result.andThen_ok, MapKept.run_getObj_map hw, Sem.run_pure, hck, MapKept.run_findKey hk1 q3]
        · cases ok
          · exact q2
          · exact .tup (xs := #[e.val, .bool true]) (.cons q2 (.cons (.bool _) .nil))
    · cases h
  · cases h
theorem update_sim (hC : Ctx.Ok P C) {H H' : Heap} {w : World} (hH : HR μ H w) {t : TypeId} {m key v r : AV} {m' key' v' : Value} (h : updateE C t m key v H = some (r, H')) (hm : VR μ m m') (hk : VR μ key key') (hv : VR μ v v') :
    ∃ w', (Instr.mapUpdate t m' key' v').run P w = .ok () w' ∧ r = undefA ∧ HR μ H' w' ∧ Fr μ H w μ H' w' := by
  unfold updateE at h
  split at h
  · rename_i kt et _ _ _ b k n hi
    obtain ⟨bi, hb, rfl⟩ := hm.mp_inv
    have := hk.int_inv; subst this
    obtain ⟨ti, z, h1, -⟩ := hC.got hi
    split at h
    · rename_i k1 _ _ _ k2 es hkt hg
      obtain ⟨tk, zk, hk1, -⟩ := hC.got hkt
      obtain ⟨hlt, ms, clock, hw, hent⟩ := hH.map hg hb
      split at h
      · rename_i hc
        obtain ⟨rfl, rfl⟩ := hc
        cases h
        have hck := MapKept.run_checkKey (P := P) (w := w) (k := .int k n) hk1 (by exact rfl) false 9999
        have hset : ∀ (o : Obj), BlkR μ { w with heap := w.heap.setIfInBounds bi.c o } bi (.map k (mapSet es n v)) → HR μ (H.set b (.map k (mapSet es n v))) { w with heap := w.heap.setIfInBounds bi.c o } ∧ Fr μ H w μ (H.set b (.map k (mapSet es n v))) { w with heap := w.heap.setIfInBounds bi.c o } := fun o hr =>
          hH.set (w' := { w with heap := w.heap.setIfInBounds bi.c o }) (blk := .map k (mapSet es n v)) (by rw [hg]; rfl) hb ⟨rfl, rfl, rfl⟩ (by simp) (fun k hk => (MapKept.heap_set hw).2 k hk) hr
        rcases map_find (n := n) 0 hent with ⟨q1, q2, q3⟩ | ⟨j, e, a, q1, q2, q3, q4, q5, q6⟩
        · refine ⟨_, ?_, rfl, hset (.map (ms.push { key := .int k n, val := v', born := clock }) (clock + 1)) ?_⟩
          · simp [Instr.mapUpdate, run_und h1, MapKept.run_getObj_map hw, hck, MapKept.run_findKey hk1 q2, MapKept.run_setObj_map _ hw, Result.andThen]
          · exact ⟨_, _, (MapKept.heap_set hw).1, by simpa using q3 v v' clock hv⟩
        · have hj : ms[j]? = some e := by simpa using q4
          refine ⟨_, ?_, rfl, hset (.map (ms.modify j fun e => { e with key := .int k n, val := v' }) clock) ?_⟩
          · have hst := MapKept.run_keyThatStays (P := P) (w := w) (d := .int k) (k := .int k n) (by exact rfl)
            simp [Instr.mapUpdate, run_und h1, MapKept.run_getObj_map hw, hck, MapKept.run_findKey hk1 q3, hj, q5, hst, MapKept.run_setObj_map _ hw, Result.andThen]
          · exact ⟨_, _, (MapKept.heap_set hw).1, by simpa using q6 v v' hv⟩
      · cases h
    · cases h
  · rename_i kt _ _ _ _ b n hi
    obtain ⟨bi, hb, rfl⟩ := hm.mp_inv
    have := hk.str_inv; subst this
    obtain ⟨ti, z, h1, -⟩ := hC.got hi
    split at h
    · rename_i _ _ _ es hkt hg
      obtain ⟨tk, zk, hk1, -⟩ := hC.got hkt
      obtain ⟨hlt, ms, clock, hw, hent⟩ := hH.smap hg hb
      cases h
      have hck := MapKept.run_checkKey (P := P) (w := w) (k := .string n) hk1 trivial false 9999
      have hset : ∀ (o : Obj), BlkR μ { w with heap := w.heap.setIfInBounds bi.c o } bi (.smap (smapSet es n v)) → HR μ (H.set b (.smap (smapSet es n v))) { w with heap := w.heap.setIfInBounds bi.c o } ∧ Fr μ H w μ (H.set b (.smap (smapSet es n v))) { w with heap := w.heap.setIfInBounds bi.c o } := fun o hr =>
        hH.set (w' := { w with heap := w.heap.setIfInBounds bi.c o }) (blk := .smap (smapSet es n v)) (by rw [hg]; rfl) hb ⟨rfl, rfl, rfl⟩ (by simp) (fun k hk => (MapKept.heap_set hw).2 k hk) hr
      rcases smap_find (n := n) 0 hent with ⟨q1, q2, q3⟩ | ⟨j, e, a, q1, q2, q3, q4, q5, q6⟩
      · refine ⟨_, ?_, rfl, hset (.map (ms.push { key := .string n, val := v', born := clock }) (clock + 1)) ?_⟩
        · simp [Instr.mapUpdate, run_und h1, MapKept.run_getObj_map hw, hck, MapKept.run_findKey hk1 q2, MapKept.run_setObj_map _ hw, Result.andThen]
        · exact ⟨_, _, (MapKept.heap_set hw).1, by simpa using q3 v v' clock hv⟩
      · have hj : ms[j]? = some e := by simpa using q4
        refine ⟨_, ?_, rfl, hset (.map (ms.modify j fun e => { e with key := .string n, val := v' }) clock) ?_⟩
        · have hst := MapKept.run_keyThatStays (P := P) (w := w) (d := .string) (k := .string n) trivial
          simp [Instr.mapUpdate, run_und h1, MapKept.run_getObj_map hw, hck, MapKept.run_findKey hk1 q3, hj, q5, hst, MapKept.run_setObj_map _ hw, Result.andThen]
        · exact ⟨_, _, (MapKept.heap_set hw).1, by simpa using q6 v v' hv⟩
    · cases h
  · cases h
theorem All2.len {α β : Type} {R : α → β → Prop} {as : List α} {bs : List β} (h : All2 R as bs) : as.length = bs.length := h.length
theorem lenMap_sim (hC : Ctx.Ok P C) {H H' : Heap} {w : World} (hH : HR μ H w) {ts : Array TypeId} {m v : AV} {m' : Value} (ht : isMap C ts.toList = true) (h : lenMapE m H = some (v, H')) (hm : VR μ m m') (ty : TypeId) :
    ∃ u, (Builtin.len_ ts ty #[m']).run P w = .ok u w ∧ VR μ v u ∧ H' = H := by
  unfold lenMapE at h
  split at h
  · rename_i b
    obtain ⟨bi, hb, rfl⟩ := hm.mp_inv
    split at h
    · rename_i k es hg
      obtain ⟨hlt, ms, clock, hw, hent⟩ := hH.map hg hb
      split at h
      · cases h
        unfold isMap at ht
        split at ht
        · rename_i t et
          obtain ⟨tl⟩ := ts; simp only at et; subst et
          split at ht
          · rename_i kt e _ _ _ hi
            obtain ⟨ti, z, h1, -⟩ := hC.got hi
            refine ⟨goInt ms.size, ?_, ?_, rfl⟩
            · simp [Builtin.len_, run_und h1, MapKept.run_getObj_map hw]
            · have : es.length = ms.size := by simpa using hent.length
              rw [this]
              exact .int _ _
          · cases ht
        · cases ht
      · cases h
    · rename_i es hg
      obtain ⟨hlt, ms, clock, hw, hent⟩ := hH.smap hg hb
      split at h
      · cases h
        unfold isMap at ht
        split at ht
        · rename_i t et
          obtain ⟨tl⟩ := ts; simp only at et; subst et
          split at ht
          · rename_i kt e _ _ _ hi
            obtain ⟨ti, z, h1, -⟩ := hC.got hi
            refine ⟨goInt ms.size, ?_, ?_, rfl⟩
            · simp [Builtin.len_, run_und h1, MapKept.run_getObj_map hw]
            · have : es.length = ms.size := by simpa using hent.length
              rw [this]
              exact .int _ _
          · cases ht
        · cases ht
      · cases h
    · cases h
  · cases h
end Go.PI
